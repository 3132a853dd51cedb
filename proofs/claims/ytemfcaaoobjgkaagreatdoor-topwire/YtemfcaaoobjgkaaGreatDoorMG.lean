/- A packet that is put, read and put again has the same bytes: the plain side.; A reader's Feed.; Packets put one behind the other, and the beginning of one more: what a reader tells of them. The plain side.; stream.New, a reader's Left; the laws' wakes.; Pieces of bytes, and what is left of them: the plain side.; What pieces tell, one behind the other: as all of them at once.; A Publish, a Subscribe, a Puback and a Pingreq are read back as they were put, part by part: the plain side.; A row of packets that is fed piece by piece: what was told, what is left, what is still to come. The plain side.; What was read is such as a machine can hold.; A packet that was read is such as Put takes.; The law's packets: what is read of them, how long their bytes are.; The law's reads: a Puback that is put, fed and told.; The laws' told: all packets that pieces tell, put again, and the code.; The laws' told, walked.; StreamPieces: in whatever pieces bytes come, the packets are the same, and the code.; What the law's loops stand on: rows of packets, put together; the row of cuts; how the loops stand. -/
import Derived.Test.YtemfcaaoobjgkaaGreatDoorMF
import Derived.Test.YtemfcaaoobjgkaaGreatDoorME
import Derived.Test.YtemfcaaoobjgkaaGreatDoorVarClone
import Derived.Test.YtemfcaaoobjgkaaGreatDoorMD
import Derived.Test.YtemfcaaoobjgkaaGreatDoorPrMisc
import Derived.Test.YtemfcaaoobjgkaaGreatDoorMA
import Derived.Test.YtemfcaaoobjgkaaGreatDoorPrApp
import Derived.BigQuiet
import Derived.Test.YtemfcaaoobjgkaaGreatDoorTwMd
import Derived.ArgAppend
import Derived.Laws.OwnMore
namespace Go.Proofs.YtemfcaaoobjgkaaGreatDoor
namespace PK
open PR (Has has_both has_ext has_nil has_mk has_left has_right has_self)
/-- What is read is put the same again, or it ends early. -/
theorem twice_or (s : ByteArray) (h : (getPk s).2 = 0) : putS (getPk s).1 = s ∨ (((begPk (b0 s)).kind = 4 ∨ (begPk (b0 s)).kind = 5 ∨ (begPk (b0 s)).kind = 6 ∨ (begPk (b0 s)).kind = 7 ∨ (begPk (b0 s)).kind = 14 ∨ (begPk (b0 s)).kind = 15) ∧ (getPk s).1.props = []) := by
  obtain ⟨m, b, hok, hpos, _, hm, hbm, hb, hL, hc, he, hX⟩ := getPk_inv h
  have hX1 : (getPk s).1 = (partsK (begPk (b0 s)).kind s b (begPk (b0 s))).1 := by rw [hX]
  have hbn : 0 ≤ b0 s ∧ b0 s ≤ 255 := by
    unfold b0
    rw [dif_pos hpos]
    have := VP.byte_lt s 0 hpos
    omega
  obtain ⟨hk1, hk2, hB⟩ := beg_kind (b0 s) hok
  obtain ⟨hfirst, hflO⟩ := beg_first (b0 s) hbn.1 hbn.2 hok
  have hA0 : At s b (⟨#[]⟩, 0) (b : Int) := ⟨rfl, has_nil (by omega), rfl⟩
  have fin : ∀ Q : Pk, Q = (getPk s).1 → putC Q = 0 ∧ putS Q = s → putS (getPk s).1 = s ∨ (((begPk (b0 s)).kind = 4 ∨ (begPk (b0 s)).kind = 5 ∨ (begPk (b0 s)).kind = 6 ∨ (begPk (b0 s)).kind = 7 ∨ (begPk (b0 s)).kind = 14 ∨ (begPk (b0 s)).kind = 15) ∧ (getPk s).1.props = []) := fun Q hQ hd => by
    subst hQ
    exact .inl hd.2
  rw [hX1] at fin ⊢
  by_cases hke : (begPk (b0 s)).kind = 1 ∨ (begPk (b0 s)).kind = 2 ∨ (begPk (b0 s)).kind = 3 ∨ (begPk (b0 s)).kind = 8 ∨ (begPk (b0 s)).kind = 9 ∨ (begPk (b0 s)).kind = 10 ∨ (begPk (b0 s)).kind = 11 ∨ (begPk (b0 s)).kind = 12 ∨ (begPk (b0 s)).kind = 13
  · obtain ⟨hA, hQk⟩ := parts_inv (begPk (b0 s)) hke hA0 hc he
    have h3 : (begPk (b0 s)).kind = 3 → (partsK (begPk (b0 s)).kind s b (begPk (b0 s))).1.dup = (begPk (b0 s)).dup ∧ (partsK (begPk (b0 s)).kind s b (begPk (b0 s))).1.ret = (begPk (b0 s)).ret ∧ (partsK (begPk (b0 s)).kind s b (begPk (b0 s))).1.qos = (begPk (b0 s)).qos := fun hk3 => by
      unfold partsK
      rw [if_neg (by omega), if_neg (by omega), if_pos hk3]
      exact ⟨rfl, rfl, rfl⟩
    obtain ⟨f1, f2⟩ := flags_same hQk h3
    have hbo : bodyO (partsK (begPk (b0 s)).kind s b (begPk (b0 s))).1 = parts (⟨#[]⟩, 0) (partsK (begPk (b0 s)).kind s b (begPk (b0 s))).1 := by
      unfold bodyO
      rw [f2]
      exact congrArg (fun x => parts x _) hflO
    rw [← hbo] at hA
    exact fin _ rfl (exact_done (by rw [hQk]; exact ⟨hk1, hk2⟩) hA hm hbm hb hL (by rw [hQk, f1]; exact hfirst) hpos)
  · have hn3 : (begPk (b0 s)).kind ≠ 3 := fun e => hke (by omega)
    by_cases hk4 : (begPk (b0 s)).kind = 4 ∨ (begPk (b0 s)).kind = 5 ∨ (begPk (b0 s)).kind = 6 ∨ (begPk (b0 s)).kind = 7
    · have e : ∀ (V : ByteArray) (a : Int), partsK (begPk (b0 s)).kind V a (begPk (b0 s)) = bnd (begPk (b0 s)) (rdId V a) (fun i a => rdEndP V a (begPk (b0 s)).kind { begPk (b0 s) with id := i }) := fun V a => by unfold partsK; rw [if_neg (by omega), if_neg (by omega), if_neg (by omega), if_neg (by omega), if_neg (by omega), if_neg (by omega), if_pos hk4]
      rw [e] at hc he fin ⊢
      obtain ⟨c1, e1⟩ := bnd_inv hc
      obtain ⟨i, a1, h1, hA1⟩ := rdId_inv hA0 c1
      rw [e1, h1] at hc he fin ⊢
      obtain ⟨c, l, a2, h2, hA2, hor⟩ := end_inv (begPk (b0 s)).kind hA1 hc he
      obtain ⟨Q, hQ⟩ : ∃ Q, Q = (rdEndP s a1 (begPk (b0 s)).kind { begPk (b0 s) with id := i }).1 := ⟨_, rfl⟩
      have hQe : Q = { begPk (b0 s) with id := i, code := c, props := l } := by rw [hQ]; unfold rdEndP; rw [h2]
      have hQk : Q.kind = (begPk (b0 s)).kind := by rw [hQe]
      obtain ⟨f1, f2⟩ := flags_same hQk (fun h => absurd h hn3)
      have hbo : bodyO Q = endO (idd (⟨#[]⟩, 0) i) (begPk (b0 s)).kind c l := by
        unfold bodyO
        rw [f2, show flagsO (begPk (b0 s)) = (⟨#[]⟩, 0) from hflO]
        unfold parts
        rw [hQk, if_neg (by omega), if_neg (by omega), if_neg (by omega), if_neg (by omega), if_neg (by omega), if_neg (by omega), if_pos hk4, hQe]
        rfl
      rw [← hbo] at hA2
      simp only at fin ⊢
      rw [← hQ] at fin ⊢
      rcases hor with rfl | ⟨hl, hf⟩
      · exact fin _ rfl (exact_done (by rw [hQk]; exact ⟨hk1, hk2⟩) hA2 hm hbm hb hL (by rw [hQk, f1]; exact hfirst) hpos)
      · exact .inr ⟨by omega, by rw [hQe]; exact hl⟩
    · have hk14 : (begPk (b0 s)).kind = 14 ∨ (begPk (b0 s)).kind = 15 := by omega
      have e : ∀ (V : ByteArray) (a : Int), partsK (begPk (b0 s)).kind V a (begPk (b0 s)) = rdEndP V a (begPk (b0 s)).kind (begPk (b0 s)) := fun V a => by unfold partsK; rw [if_neg (by omega), if_neg (by omega), if_neg (by omega), if_neg (by omega), if_neg (by omega), if_neg (by omega), if_neg hk4, if_pos hk14]
      rw [e] at hc he fin ⊢
      obtain ⟨c, l, a2, h2, hA2, hor⟩ := end_inv (begPk (b0 s)).kind hA0 hc he
      obtain ⟨Q, hQ⟩ : ∃ Q, Q = (rdEndP s b (begPk (b0 s)).kind (begPk (b0 s))).1 := ⟨_, rfl⟩
      have hQe : Q = { begPk (b0 s) with code := c, props := l } := by rw [hQ]; unfold rdEndP; rw [h2]
      have hQk : Q.kind = (begPk (b0 s)).kind := by rw [hQe]
      obtain ⟨f1, f2⟩ := flags_same hQk (fun h => absurd h hn3)
      have hbo : bodyO Q = endO (⟨#[]⟩, 0) (begPk (b0 s)).kind c l := by
        unfold bodyO
        rw [f2, show flagsO (begPk (b0 s)) = (⟨#[]⟩, 0) from hflO]
        unfold parts
        rw [hQk, if_neg (by omega), if_neg (by omega), if_neg (by omega), if_neg (by omega), if_neg (by omega), if_neg (by omega), if_neg hk4, if_pos hk14, hQe]
        rfl
      rw [← hbo] at hA2
      rw [← hQ] at fin ⊢
      rcases hor with rfl | ⟨hl, hf⟩
      · exact fin _ rfl (exact_done (by rw [hQk]; exact ⟨hk1, hk2⟩) hA2 hm hbm hb hL (by rw [hQk, f1]; exact hfirst) hpos)
      · exact .inr ⟨by omega, by rw [hQe]; exact hl⟩
theorem put_same {P Q : Pk} (hk : Q.kind = P.kind) (hf : flagsN Q = flagsN P) (hb : bodyO Q = bodyO P) : putS Q = putS P := by
  have hc : putC Q = putC P := by unfold putC; rw [hk, hb]
  unfold putS
  rw [hc, hk, hf, hb]
/-- A packet that is put, read and put again. -/
theorem back (P : Pk) (hc : putC P = 0) : putC (getPk (putS P)).1 = 0 ∧ putS (getPk (putS P)).1 = putS P ∧ (getPk (putS P)).1.kind = P.kind := by
  obtain ⟨hr, hk, hb, hbk⟩ := put_read P hc
  have ht := twice (putS P) hr
  have hS : putS (getPk (putS P)).1 = putS P := by
    obtain ⟨m, b, hok, hpos, hg, hm, hbm, hb', hL, hcc, he, hX⟩ := getPk_inv hr
    rcases twice_or (putS P) hr with h | ⟨hke, hl⟩
    · exact h
    · rw [hbk] at hke
      have hn3 : P.kind ≠ 3 := by omega
      obtain ⟨b2, p1, p2, p3, p4, p5, p6, p7⟩ := putS_head hk hc (beg_back P hk (fun h => absurd h hn3)).1
      have eb : b2 = b := by
        have := congrArg (fun x => x.2.1) (p1.symm.trans hg)
        simp only at this
        omega
      subst eb
      have hfl : flagsO P = (⟨#[]⟩, 0) := by unfold flagsO; rw [if_neg (fun e => hn3 e.1)]
      have hbo : bodyO P = parts (⟨#[]⟩, 0) P := by unfold bodyO; rw [hfl]
      obtain ⟨P0, hP0⟩ : ∃ P0, P0 = begPk (b0 (putS P)) := ⟨_, rfl⟩
      have h0k : P0.kind = P.kind := by rw [hP0]; exact hbk
      rw [← hP0] at hX
      rw [hX] at hl ⊢
      simp only at hl ⊢
      rw [h0k] at hl ⊢
      by_cases k4 : P.kind = 4 ∨ P.kind = 5 ∨ P.kind = 6 ∨ P.kind = 7
      · have e : parts (⟨#[]⟩, 0) P = endO (idd (⟨#[]⟩, 0) P.id) P.kind P.code P.props := by unfold parts; rw [if_neg (by omega), if_neg (by omega), if_neg (by omega), if_neg (by omega), if_neg (by omega), if_neg (by omega), if_pos k4]; rfl
        rw [hbo, e] at p2 p3 p6
        obtain ⟨a1, a2, a3⟩ := end_fw P.kind P.code P.props p6 p3 p2
        obtain ⟨b1, _, b3⟩ := idd_fw a1 a2
        have hQ : (partsK P.kind (putS P) b2 P0).1 = { P0 with id := P.id, code := P.code, props := P.props.map PR.nrm } := by
          unfold partsK
          rw [if_neg (by omega), if_neg (by omega), if_neg (by omega), if_neg (by omega), if_neg (by omega), if_neg (by omega), if_pos k4, show ((b2 : Nat) : Int) = ((b2 + ((⟨#[]⟩, 0) : ByteArray × Int).1.size : Nat) : Int) from rfl, b3, bnd_ok rfl]
          unfold rdEndP
          rw [a3]
        rw [hQ] at hl ⊢
        have hpn : P.props = [] := by simpa using hl
        obtain ⟨f1, f2⟩ := flags_same (P := P) (Q := { P0 with id := P.id, code := P.code, props := P.props.map PR.nrm }) h0k (fun h => absurd h hn3)
        refine put_same h0k f1 ?_
        rw [hbo, e]
        unfold bodyO
        rw [f2, hfl]
        unfold parts
        simp only [h0k]
        rw [if_neg (by omega), if_neg (by omega), if_neg (by omega), if_neg (by omega), if_neg (by omega), if_neg (by omega), if_pos k4]
        show endO (idd (⟨#[]⟩, 0) P.id) P.kind P.code (P.props.map PR.nrm) = _
        rw [hpn]
        rfl
      · have k14 : P.kind = 14 ∨ P.kind = 15 := by omega
        have e : parts (⟨#[]⟩, 0) P = endO (⟨#[]⟩, 0) P.kind P.code P.props := by unfold parts; rw [if_neg (by omega), if_neg (by omega), if_neg (by omega), if_neg (by omega), if_neg (by omega), if_neg (by omega), if_neg k4, if_pos k14]; rfl
        rw [hbo, e] at p2 p3 p6
        obtain ⟨a1, a2, a3⟩ := end_fw (o := (⟨#[]⟩, 0)) P.kind P.code P.props p6 p3 p2
        have hQ : (partsK P.kind (putS P) b2 P0).1 = { P0 with code := P.code, props := P.props.map PR.nrm } := by
          unfold partsK
          rw [if_neg (by omega), if_neg (by omega), if_neg (by omega), if_neg (by omega), if_neg (by omega), if_neg (by omega), if_neg k4, if_pos k14, show ((b2 : Nat) : Int) = ((b2 + ((⟨#[]⟩, 0) : ByteArray × Int).1.size : Nat) : Int) from rfl]
          unfold rdEndP
          rw [a3]
        rw [hQ] at hl ⊢
        have hpn : P.props = [] := by simpa using hl
        obtain ⟨f1, f2⟩ := flags_same (P := P) (Q := { P0 with code := P.code, props := P.props.map PR.nrm }) h0k (fun h => absurd h hn3)
        refine put_same h0k f1 ?_
        rw [hbo, e]
        unfold bodyO
        rw [f2, hfl]
        unfold parts
        simp only [h0k]
        rw [if_neg (by omega), if_neg (by omega), if_neg (by omega), if_neg (by omega), if_neg (by omega), if_neg (by omega), if_neg k4, if_pos k14]
        show endO (⟨#[]⟩, 0) P.kind P.code (P.props.map PR.nrm) = _
        rw [hpn]
        rfl
  refine ⟨ht.1, hS, ?_⟩
  have h2 := put_read (getPk (putS P)).1 ht.1
  rw [hS] at h2
  exact h2.2.2.2.symm.trans hbk
end PK
end Go.Proofs.YtemfcaaoobjgkaaGreatDoor
namespace Go.Proofs.YtemfcaaoobjgkaaGreatDoor
open Go.RowKit Go.Shelf
attribute [local go_sem ↓] Go.wp_at_zero Go.wp_at_succ

theorem own_kp {r B : Nat} {e : TypeId} {k : Nat} {v : Value} {n : Nat} {xs : List Value} {w w' : World} (h : w.ownsRow B e k v n xs) (hk : Kp r w w') (hr : r < B) (he : e ≠ 5) : w'.ownsRow B e k v n xs := by
  refine ⟨h.1, ?_⟩
  rcases h.2 with hn | ⟨g, cap, cur, hv, hb, hg, rest⟩
  · exact .inl hn
  · exact .inr ⟨g, cap, cur, hv, hb, hk.block hg (by omega) he, rest⟩
theorem PkRow.kp {r B : Nat} {v : Value} {L : List Pv} {w w' : World} (h : PkRow B v L w) (hk : Kp r w w') (hr : r < B) : PkRow B v L w' :=
  ⟨own_kp h.row hk hr (by decide), fun x hx => ⟨own_kp (h.own x hx).codes hk hr (by decide), own_kp (h.own x hx).props hk hr (by decide), own_kp (h.own x hx).wprops hk hr (by decide), own_kp (h.own x hx).subs hk hr (by decide), own_kp (h.own x hx).filters hk hr (by decide)⟩⟩
theorem Fd.code {r : Nat} {m : Int} {l : List UInt8} {c : Int} {w : World} (h : Fd r m l c w) (c' : Int) : Fd r m l c' (w.setCell ⟨r, 3, none⟩ (.int .u8 c')) := by
  rcases h with ⟨v, h1, h2, h3⟩ | ⟨v, h1, h2, h3⟩
  · exact .inl ⟨v, set_block h1 rfl, ownF_set h2 h3, h3⟩
  · exact .inr ⟨v, set_block h1 rfl, ownF_set h2 h3, h3⟩
theorem Fd.most {r : Nat} {m : Int} {l : List UInt8} {c : Int} {w : World} (h : Fd r m l c w) : w.cell? ⟨r, 0, none⟩ = some (.int .i64 m) ∧ w.cell? ⟨r, 3, none⟩ = some (.int .u8 c) ∧ w.frozen? ⟨r, 3, none⟩ = false := by
  rcases h with ⟨v, h1, _, _⟩ | ⟨v, h1, _, _⟩
  · exact ⟨by rw [cell_heap h1]; rfl, by rw [cell_heap h1]; rfl, frozen_heap h1⟩
  · exact ⟨by rw [cell_heap h1]; rfl, by rw [cell_heap h1]; rfl, frozen_heap h1⟩
theorem kp_of_below {r B : Nat} {w w' : World} (hr : r ≤ B) (hB : B ≤ w.heap.size) (h : Below w.heap.size w w') : Kp r w w' := Kp.of_below (by omega) h
theorem feed1_enters (args : Array Value) (W : World) : (callFunc 17 args).run Tryz.prog W = .ok (.enter 17 args) W :=
  enters_of Tryz.func17 (by kernel_rfl) rfl args W

namespace ST
/-- What a reader with the bytes U tells: the packets' bytes, the place behind them, the code. -/
def fed (m : Int) (U : ByteArray) : List ByteArray × Nat × Int := thr U m (fun b => (PK.getPk b).2) (U.size + 1) 0
/-- What is left of them. -/
def left (m : Int) (U : ByteArray) : List UInt8 := if (fed m U).2.2 ≠ 0 then [] else (U.extract (fed m U).2.1 U.size).data.toList
theorem fed_le (m : Int) (U : ByteArray) : (fed m U).2.1 ≤ U.size := by
  have : ∀ (u a : Nat), a ≤ U.size → (thr U m (fun b => (PK.getPk b).2) u a).2.1 ≤ U.size := by
    intro u
    induction u with
    | zero => intro a h; exact h
    | succ u ih =>
      intro a h
      rw [thr]
      split
      · rename_i h1
        obtain ⟨k, hk, hk1, hk2⟩ := first_ok _ _ h1
        rw [ByteArray.size_extract] at hk2
        rw [hk]
        simp only [Int.toNat_natCast]
        split
        · exact ih (a + k) (by omega)
        · exact h
      · exact h
  exact this _ _ (Nat.zero_le _)
end ST
/-- What Feed answers. -/
def FeP (r : Nat) (m : Int) (U : ByteArray) (w : World) (e : Ending) (w' : World) : Prop :=
  ∃ v L, e = .returned (.tuple #[v, .int .u8 (ST.fed m U).2.2]) ∧ PkRow w.heap.size v L w' ∧ L.map Pv.p = (ST.fed m U).1.map (fun b => (PK.getPk b).1) ∧ Fd r m (ST.left m U) (ST.fed m U).2.2 w' ∧ Kp r w w'

set_option maxRecDepth 100000 in
set_option maxHeartbeats 2000000 in
theorem feed_nil (s : ByteArray) (w : World) : Calls Tryz.prog 7 #[.pointer none, .string s] w fun e w' => e = .returned (.tuple #[.slice none 0 0, .int .u8 128]) ∧ w = w' := by
  go_enter Tryz.func7, Tryz.ntmps7
  go_wp2
  go_ret2
  exact ⟨rfl, rfl⟩
set_option maxRecDepth 100000 in
set_option maxHeartbeats 2000000 in
theorem feed_over (r : Nat) (m : Int) (l : List UInt8) (c : Int) (s : ByteArray) (w : World) (hc : c ≠ 0) (h : Fd r m l c w) :
    Calls Tryz.prog 7 #[.pointer (some ⟨r, 0, none⟩), .string s] w fun e w' => e = .returned (.tuple #[.slice none 0 0, .int .u8 c]) ∧ Below w.heap.size w w' := by
  obtain ⟨_, q3, _⟩ := h.most
  have hne : (c != 0) = true := by rw [bne_iff_ne]; exact hc
  clear h hc
  go_enter Tryz.func7, Tryz.ntmps7
  go_wp2_with fail
  go_quiet (fail)
  go_wp2
  go_ret2
  exact ⟨rfl, drewN_below _ _ _⟩

set_option maxRecDepth 100000 in
set_option maxHeartbeats 2000000 in
theorem feed_any (r : Nat) (m : Int) (l : List UInt8) (s : ByteArray) (w : World) (h : Fd r m l 0 w) (hsz : l.length + s.size ≤ 1900000) (hT : ∀ W, Below r w W → Tabs W) :
    Calls Tryz.prog 7 #[.pointer (some ⟨r, 0, none⟩), .string s] w (FeP r m ⟨(l ++ s.data.toList).toArray⟩ w) := by
  have hmf : ∀ (fn : Fn) (first cap : Array Value) (w : World), (Instr.makeFunc fn first cap).run Tryz.prog w = .ok (.func fn first cap) w := fun _ _ _ _ => rfl
  have hlt := h.lt
  obtain ⟨_, q3, _⟩ := h.most
  have C1 := Lib.hid (fwrite_any r m l 0 s w h (by omega))
  have hUs : (⟨(l ++ s.data.toList).toArray⟩ : ByteArray).size ≤ 1900000 := by
    show (l ++ s.data.toList).toArray.size ≤ _
    have : s.data.toList.length = s.size := by rw [Array.length_toList]; rfl
    simp; omega
  have hUl : ∀ L : List UInt8, L = l ++ s.data.toList → L = (⟨L.toArray⟩ : ByteArray).data.toList := fun L _ => by simp
  generalize l ++ s.data.toList = l2 at *
  obtain ⟨U, hU⟩ : ∃ U : ByteArray, U = ⟨l2.toArray⟩ := ⟨_, rfl⟩
  rw [← hU] at hUs ⊢
  have HU := Lib.hid hU
  have HTb := Lib.hid hT
  clear hU hT hUl h
  go_enter Tryz.func7, Tryz.ntmps7
  go_wp2_with fail
  refine C1.out.mono ?_
  rintro e w1 ⟨rfl, h1, k1⟩
  have C2 := Lib.hid (fstring_any r m l2 0 w1 h1)
  have K1 := Lib.hid k1
  clear h1 k1 C1 q3
  rw [← HU.out] at C2
  go_wp2_with fail
  refine C2.out.mono ?_
  rintro e w2 ⟨rfl, h2, k2⟩
  have K2 := Lib.hid (K1.out.trans k2)
  have hlt2 := h2.lt
  have hal := (Below.refl w2.heap.size w2).alloc (Nat.le_refl _) (.cells #[.slice none 0 0] 29)
  have h3 := h2.below hal
  obtain ⟨q0, _, _⟩ := h3.most
  have I0 : FoI w2.heap.size w2 [] (w2.alloc (.cells #[.slice none 0 0] 29)) := ⟨_, [], heap_alloc_new w2 _, ⟨own_nil _ _ _ _, fun x hx => by cases hx⟩, rfl, by simp, hal⟩
  have CT := Lib.hid (through_any 17 #[.pointer (some ⟨w2.heap.size, 0, none⟩)] (fun b => (PK.getPk b).2) (FoI w2.heap.size w2) U m (by omega) feed1_enters
    (fun l a k W hI hl2 hk1 hk2 => feed1_any w2.heap.size w2 l (U.extract a (a + k)) (by rw [ByteArray.size_extract]; omega) (by omega) (fun W' hW' => HTb.out W' (K2.out.1.trans (hW'.mono (by omega)))) W hI) _ I0)
  have hle := ST.fed_le m U
  have HLf : Hid (ST.left m U = if (ST.fed m U).2.2 ≠ 0 then [] else (U.extract (ST.fed m U).2.1 U.size).data.toList) := Lib.hid rfl
  rw [show ST.thr U m (fun b => (PK.getPk b).2) (U.size + 1) 0 = ST.fed m U from rfl] at CT
  obtain ⟨ls, a, c, hX⟩ : ∃ ls a c, ST.fed m U = (ls, a, c) := ⟨_, _, _, rfl⟩
  have FIN : Hid (∀ e w', (∃ v L, e = .returned (.tuple #[v, .int .u8 c]) ∧ PkRow w.heap.size v L w' ∧ L.map Pv.p = ls.map (fun b => (PK.getPk b).1) ∧ Fd r m (ST.left m U) c w' ∧ Kp r w w') → FeP r m U w e w') := Lib.hid (by unfold FeP; rw [hX]; exact fun _ _ h => h)
  rw [hX] at CT hle HLf
  simp only at CT hle HLf
  clear hX
  have H2 := Lib.hid h2
  clear h2 k2 C2 hal h3 I0 K1
  go_wp2_with fail
  refine CT.out.mono ?_
  rintro e w4 ⟨rfl, v, L, hv, hrow, hmap, hp1, hbe⟩
  have h4 := H2.out.below hbe
  obtain ⟨_, q3, f3⟩ := h4.most
  have h5 := h4.code c
  have K5 : Kp r w (w4.setCell ⟨r, 3, none⟩ (.int .u8 c)) := (K2.out.trans (Kp.of_below (Nat.le_of_lt hlt2) hbe)).setCell 3 _
  have v5 : (w4.setCell ⟨r, 3, none⟩ (.int .u8 c)).heap[w2.heap.size]? = some (.cells #[v] 29 (0, 0)) := (Below.heap_setCell _ _ _ _ (fun e => by simp at e; omega)).trans hv
  have r5 : PkRow (w2.heap.size + 1) v L (w4.setCell ⟨r, 3, none⟩ (.int .u8 c)) := hrow.set (by omega)
  have hz := K2.out.1.size
  obtain ⟨ao, co, rfl⟩ := own_form hrow.row
  have H5 := Lib.hid h5; have HK5 := Lib.hid K5; have V5 := Lib.hid v5; have R5 := Lib.hid r5; have HM := Lib.hid hmap
  clear h4 h5 K5 v5 r5 hmap hrow hv hbe CT H2 K2 hp1
  by_cases hc : c = 0
  · subst hc
    have EL : Hid (ST.left m U = (U.extract a U.size).data.toList) := Lib.hid (by rw [HLf.out, if_neg (by decide)])
    clear HLf
    by_cases ha : a = 0
    · subst ha
      have q6 := cell_of_one V5.out
      go_wp2_with fail
      go_ret2
      refine FIN.out _ _ ⟨_, L, rfl, R5.out.base (by omega), HM.out, ?_, HK5.out⟩
      rw [EL.out, HU.out]
      have := H5.out
      simpa using this
    · have hapos : (0 : Int) < (a : Int) := by omega
      have CR := Lib.hid (freset_any r m l2 0 _ H5.out)
      go_wp2_with fail
      refine CR.out.mono ?_
      rintro e w6 ⟨rfl, h6, k6⟩
      have hsl := st_from U a hle
      have CW := Lib.hid (fun W (hW : Below w6.heap.size w6 W) => fwrite_any r m [] 0 (U.extract a U.size) W (h6.below hW) (by rw [ByteArray.size_extract]; simp; omega))
      have K6 := Lib.hid (HK5.out.trans k6)
      have V6 := Lib.hid (k6.block V5.out (by omega) (by decide))
      have R6 := Lib.hid (R5.out.kp k6 (by omega))
      have hl6 := h6.lt
      clear CR h6 k6 H5 HK5 V5 R5
      go_wp2_with fail
      go_region_with
        (go_at_call 14
         refine (CW.out _ (Below.drew (Below.refl _ w6))).mono ?_
         rintro e w7 ⟨rfl, h7, k7⟩)
      all_goals
        have k7' := Kp.drew k7
        have V7 := Lib.hid (k7'.block V6.out (by omega) (by decide))
        have R7 := Lib.hid (R6.out.kp k7' (by omega))
        have K7 := Lib.hid (K6.out.trans k7')
        have H7 := Lib.hid h7
        have q7 := cell_of_one V7.out
        clear h7 k7 k7' V6 R6 K6 CW
        go_wp2_with fail
        go_ret2
        exact FIN.out _ _ ⟨_, L, rfl, R7.out.base (by omega), HM.out, by rw [EL.out]; simpa using H7.out, K7.out⟩
  · have hne : (c != 0) = true := by rw [bne_iff_ne]; exact hc
    have EL : Hid (ST.left m U = []) := Lib.hid (by rw [HLf.out, if_pos hc])
    have CR := Lib.hid (freset_any r m l2 c _ H5.out)
    clear HLf hc
    go_wp2_with fail
    refine CR.out.mono ?_
    rintro e w6 ⟨rfl, h6, k6⟩
    have K6 := Lib.hid (HK5.out.trans k6)
    have V6 := Lib.hid (k6.block V5.out (by omega) (by decide))
    have R6 := Lib.hid (R5.out.kp k6 (by omega))
    have H6 := Lib.hid h6
    have q7 := cell_of_one V6.out
    clear CR h6 k6 H5 HK5 V5 R5
    go_wp2_with fail
    go_ret2
    exact FIN.out _ _ ⟨_, L, rfl, R6.out.base (by omega), HM.out, by rw [EL.out]; exact H6.out, K6.out⟩
end Go.Proofs.YtemfcaaoobjgkaaGreatDoor
namespace Go.Proofs.YtemfcaaoobjgkaaGreatDoor
namespace ST
/-- The place, from a place on. -/
theorem thr_at (s : ByteArray) (m : Int) (f : ByteArray → Int) (b : Nat) : ∀ (u a : Nat), (thr s m f u (b + a)).2.1 = b + (thr (s.extract b s.size) m f u a).2.1
  | 0, a => rfl
  | u + 1, a => by
    have hz : (s.extract b s.size).size = s.size - b := by rw [ByteArray.size_extract]; omega
    have e1 : (s.extract b s.size).extract a (s.extract b s.size).size = s.extract (b + a) s.size := by
      rw [hz, ByteArray.extract_extract]; congr 1; omega
    rw [thr, thr, e1]
    by_cases hf : (first (s.extract (b + a) s.size) m).2 = 0
    · obtain ⟨k, hk, hk1, hk2⟩ := first_ok _ _ hf
      rw [ByteArray.size_extract] at hk2
      rw [hk]
      simp only [Int.toNat_natCast, if_true]
      have e2 : (s.extract b s.size).extract a (a + k) = s.extract (b + a) (b + a + k) := by
        rw [ByteArray.extract_extract]; congr 1; omega
      rw [e2]
      have ih := thr_at s m f b u (a + k)
      rw [show b + (a + k) = b + a + k by omega] at ih
      split
      · exact ih
      · rfl
    · rw [if_neg hf, if_neg hf]
theorem first_put (P : Pk) (hc : PK.putC P = 0) : first (PK.putS P) 65541 = ((((PK.putS P).size : Nat) : Int), (0 : Int)) := by
  obtain ⟨m, b, i1, i2, i3, i4, i5, i6, _⟩ := PK.getPk_inv (PK.put_read P hc).1
  have h := PK.len_mono (n := m) (m := 65536) i4 (Nat.le_refl _)
  have e : (strOfNums (VP.putL ((65536 : Nat) : Int))).size = 3 := by decide +kernel
  unfold first
  rw [if_neg (by omega), i3]
  simp only [ne_eq, not_true_eq_false, if_false]
  rw [if_neg (by omega), if_neg (by omega)]
  congr 1
  omega
theorem first_cut (P : Pk) (hc : PK.putC P = 0) (k : Nat) (hk : k < (PK.putS P).size) : (first ((PK.putS P).extract 0 k) 65541).2 = 242 := by
  obtain ⟨m, b, i1, i2, i3, i4, i5, i6, _⟩ := PK.getPk_inv (PK.put_read P hc).1
  have h := PK.len_mono (n := m) (m := 65536) i4 (Nat.le_refl _)
  have e : (strOfNums (VP.putL ((65536 : Nat) : Int))).size = 3 := by decide +kernel
  have hs : ((PK.putS P).extract 0 k).size = k := by rw [ByteArray.size_extract]; omega
  have hb := PK.beg_cut (PK.putS P) k
  by_cases h0 : k = 0
  · unfold first; rw [if_pos (by omega)]
  · by_cases hg : (VP.get ((PK.putS P).extract 0 k) 1).2.2 = 242
    · unfold first
      rw [if_neg (by omega), if_pos (by rw [hg]; decide)]
      exact hg
    · have e1 := get_keeps hb 1 (by omega) hg
      have e' : VP.get ((PK.putS P).extract 0 k) 1 = ((m : Int), (b : Int), 0) := e1.symm.trans i3
      unfold first
      rw [if_neg (by omega), e']
      simp only [ne_eq, not_true_eq_false, if_false]
      rw [if_neg (by omega), if_pos (by omega)]
theorem first_empty {t : ByteArray} (h : t.size = 0) : (first t 65541).2 = 242 := by unfold first; rw [if_pos h]
theorem app_drop (X Y : ByteArray) : (X ++ Y).extract X.size (X ++ Y).size = Y := by
  apply ByteArray.ext_getElem
  · rw [ByteArray.size_extract, ByteArray.size_append]; omega
  · intro i h1 h2
    rw [ByteArray.getElem_extract, ByteArray.getElem_append_right (by omega)]
    congr 1
    omega
theorem app_take (X Y : ByteArray) : (X ++ Y).extract 0 X.size = X := by
  apply ByteArray.ext_getElem
  · rw [ByteArray.size_extract, ByteArray.size_append]; omega
  · intro i h1 h2
    rw [ByteArray.getElem_extract]
    simp only [Nat.zero_add]
    exact ByteArray.getElem_append_left h2
theorem whole (X : ByteArray) : X.extract 0 X.size = X := by simp
theorem fed_cons (P : Pk) (hc : PK.putC P = 0) (U : ByteArray) : fed 65541 (PK.putS P ++ U) = (PK.putS P :: (fed 65541 U).1, (PK.putS P).size + (fed 65541 U).2.1, (fed 65541 U).2.2) := by
  have hf : first (PK.putS P ++ U) 65541 = ((((PK.putS P).size : Nat) : Int), (0 : Int)) := by
    rw [← first_put P hc]
    exact first_keeps (PK.beg_app _ _) 65541 (by rw [first_put P hc]; show (0 : Int) ≠ 242; decide)
  have hr := (PK.put_read P hc).1
  have hpos : 2 ≤ (PK.putS P).size := by
    obtain ⟨k, hk, hk1, hk2⟩ := first_ok (PK.putS P) 65541 (by rw [first_put P hc])
    omega
  have ht := app_take (PK.putS P) U
  have hd := app_drop (PK.putS P) U
  have hz : (PK.putS P ++ U).size = (PK.putS P).size + U.size := ByteArray.size_append
  generalize PK.putS P = b at *
  unfold fed
  rw [thr, whole, hf]
  simp only [Int.toNat_natCast, if_true, Nat.zero_add]
  rw [ht, if_pos hr]
  have h1 := thr_drop (b ++ U) 65541 (fun b => (PK.getPk b).2) b.size (b ++ U).size 0
  have h2 := thr_at (b ++ U) 65541 (fun b => (PK.getPk b).2) b.size (b ++ U).size 0
  rw [hd, Nat.add_zero] at h1 h2
  rw [thr_fuel U 65541 (fun b => (PK.getPk b).2) (b ++ U).size (U.size + 1) 0 (by omega) (by omega) (by omega)] at h1 h2
  exact Prod.ext (by simp only; rw [h1.1]) (Prod.ext (by simp only; rw [h2]) (by simp only; rw [h1.2]))
theorem fed_tail {t : ByteArray} (ht : (first t 65541).2 = 242) : fed 65541 t = ([], 0, 0) := by
  unfold fed
  rw [thr, whole, if_neg (by rw [ht]; decide), if_pos ht]
/-- The bytes of packets, one behind the other. -/
def cat : List ByteArray → ByteArray
  | [] => ⟨#[]⟩
  | x :: l => x ++ cat l
theorem cat_snoc : ∀ (l : List ByteArray) (x : ByteArray), cat (l ++ [x]) = cat l ++ x
  | [], x => by simp only [List.nil_append, cat]; apply ByteArray.ext; simp
  | y :: l, x => by simp only [List.cons_append, cat]; rw [cat_snoc l x, ByteArray.append_assoc]
theorem cat_size (l : List ByteArray) (n : Nat) (h : ∀ x ∈ l, x.size ≤ n) : (cat l).size ≤ l.length * n := by
  induction l with
  | nil => exact Nat.zero_le _
  | cons x l ih =>
    have h1 := h x (by simp)
    have h2 := ih (fun y hy => h y (by simp [hy]))
    rw [cat, ByteArray.size_append, List.length_cons, Nat.succ_mul]
    omega
theorem fed_all (l : List Pk) (h : ∀ P ∈ l, PK.putC P = 0) (t : ByteArray) (ht : (first t 65541).2 = 242) :
    fed 65541 (cat (l.map PK.putS) ++ t) = (l.map PK.putS, (cat (l.map PK.putS)).size, 0) := by
  induction l with
  | nil =>
    have e : cat (List.map PK.putS []) ++ t = t := by apply ByteArray.ext; simp [cat]
    rw [e, fed_tail ht]; rfl
  | cons P l ih =>
    have h2 := ih (fun y hy => h y (by simp [hy]))
    have e : cat (List.map PK.putS (P :: l)) ++ t = PK.putS P ++ (cat (l.map PK.putS) ++ t) := by simp only [List.map_cons, cat]; rw [ByteArray.append_assoc]
    rw [e, fed_cons P (h P (by simp)), h2]
    simp only [List.map_cons, cat, ByteArray.size_append]
theorem left_all (l : List Pk) (h : ∀ P ∈ l, PK.putC P = 0) (t : ByteArray) (ht : (first t 65541).2 = 242) : left 65541 (cat (l.map PK.putS) ++ t) = t.data.toList := by
  unfold left
  rw [fed_all l h t ht, if_neg (fun e => e rfl), app_drop]
end ST
namespace PK
/-- Those that have bytes. -/
def kept (l : List Pk) : List Pk := l.filter (fun P => putC P == 0)
theorem kept_yes (l : List Pk) {P : Pk} (h : putC P = 0) : kept (l ++ [P]) = kept l ++ [P] := by unfold kept; rw [List.filter_append]; simp [h]
theorem kept_no (l : List Pk) {P : Pk} (h : putC P ≠ 0) : kept (l ++ [P]) = kept l := by unfold kept; rw [List.filter_append]; simp [h]
theorem kept_mem {l : List Pk} {P : Pk} (h : P ∈ kept l) : putC P = 0 := by
  unfold kept at h
  have := (List.mem_filter.1 h).2
  simpa using this
theorem kept_len (l : List Pk) : (kept l).length ≤ l.length := List.length_filter_le _ _
end PK
end Go.Proofs.YtemfcaaoobjgkaaGreatDoor
namespace Go.Proofs.YtemfcaaoobjgkaaGreatDoor
open Go.RowKit
attribute [local go_sem ↓] Go.wp_at_zero Go.wp_at_succ

set_option maxRecDepth 100000 in
theorem new_any (m : Int) (w : World) : Calls Tryz.prog 5 #[.int .i64 m] w fun e w' => e = .returned (.pointer (some ⟨w.heap.size, 0, none⟩)) ∧ Fd w.heap.size m [] 0 w' ∧ Below w.heap.size w w' := by
  have H1 : Hid (Fd w.heap.size m [] 0 (w.alloc (.cells #[.int .i64 m, .pointer none, .slice none 0 0, .int .u8 0] 68))) := Lib.hid (.inl ⟨_, heap_alloc_new w _, World.ownsRowF_nil _ _ _ _, by simp [Value.ownBlock]⟩)
  have H2 : Hid (Below w.heap.size w (w.alloc (.cells #[.int .i64 m, .pointer none, .slice none 0 0, .int .u8 0] 68))) := Lib.hid ((Below.refl _ _).alloc (Nat.le_refl _) _)
  go_enter Tryz.func5, Tryz.ntmps5
  go_wp2
  go_ret
  exact ⟨rfl, H1.out, H2.out⟩
theorem left_nil (w : World) : Calls Tryz.prog 9 #[.pointer none] w fun e w' => e = .returned (.string ⟨#[]⟩) ∧ w = w' := by
  go_enter Tryz.func9, Tryz.ntmps9
  go_wp2
  go_ret
  exact ⟨rfl, rfl⟩
set_option maxRecDepth 100000 in
theorem left_any (r : Nat) (m : Int) (l : List UInt8) (c : Int) (w : World) (h : Fd r m l c w) (hl : l.length ≤ 281474976710656) :
    Calls Tryz.prog 9 #[.pointer (some ⟨r, 0, none⟩)] w fun e w' => e = .returned (.string ⟨l.toArray⟩) ∧ Fd r m l c w' ∧ Kp r w w' := by
  have C := Lib.hid (fstring_any r m l c w h)
  have CC := Lib.hid (clone_any ⟨l.toArray⟩)
  have hs : (⟨l.toArray⟩ : ByteArray).size ≤ 281474976710656 := by show l.toArray.size ≤ _; simp; exact hl
  clear h
  go_enter Tryz.func9, Tryz.ntmps9
  go_wp2_with fail
  refine C.out.mono ?_
  rintro e w1 ⟨rfl, h1, k1⟩
  have hlt := h1.lt
  have H1 := Lib.hid h1
  have K1 := Lib.hid k1
  clear h1 k1 C
  go_wp2_with fail
  refine (CC.out _ hs).mono ?_
  rintro e w2 ⟨rfl, b2⟩
  have H2 := Lib.hid (H1.out.below b2)
  have K2 := Lib.hid (K1.out.trans (Kp.of_below (Nat.le_of_lt hlt) b2))
  clear b2 H1 K1 CC
  go_wp2_with fail
  go_ret
  exact ⟨rfl, H2.out, K2.out⟩

theorem fed_half : ST.fed 100 ⟨#[192]⟩ = ([], 0, 0) := by kernel_rfl
theorem ping_pk : PK.getPk ⟨#[192, 0]⟩ = (PK.barePk 12 false false 0, 0) := by kernel_rfl
theorem fed_two : ST.fed 100 ⟨#[192, 0, 192, 0]⟩ = ([⟨#[192, 0]⟩, ⟨#[192, 0]⟩], 4, 0) := by kernel_rfl

theorem two_len {L : List Pv} (h : L.length = 2) : ∃ x y, L = [x, y] := by
  cases L with
  | nil => simp at h
  | cons x t => cases t with
    | nil => simp at h
    | cons y u => cases u with
      | nil => exact ⟨x, y, rfl⟩
      | cons z u => simp at h
theorem two_of {L : List Pv} {a b : Pk} (h : L.map Pv.p = [a, b]) : ∃ x y, L = [x, y] :=
  two_len (by have := congrArg List.length h; rw [List.length_map] at this; exact this)
set_option maxRecDepth 100000 in
set_option maxHeartbeats 1000000 in
theorem swakes_any (w : World) (hT : ∀ W, Below w.heap.size w W → Tabs W) : Calls Tryz.prog 6 #[] w fun e w' => e = .returned (.bool true) ∧ Below w.heap.size w w' := by
  have CN := Lib.hid (new_any 100 w)
  have HTb := Lib.hid hT
  clear hT
  go_enter Tryz.func6, Tryz.ntmps6
  go_wp2_with fail
  refine CN.out.mono ?_
  rintro e w1 ⟨rfl, h1, b1⟩
  have C1 : Hid (Calls Tryz.prog 7 #[.pointer (some ⟨w.heap.size, 0, none⟩), .string ⟨#[192]⟩] w1 (FeP w.heap.size 100 ⟨#[192]⟩ w1)) := Lib.hid (feed_any w.heap.size 100 [] ⟨#[192]⟩ w1 h1 (by decide) (fun W hW => HTb.out W (b1.trans hW)))
  have B1 := Lib.hid b1
  clear h1 b1 CN
  go_wp2_with fail
  refine C1.out.mono ?_
  rintro e w2 hF
  obtain ⟨v2, L2, rfl, r2, m2, h2, k2⟩ := hF
  rw [fed_half] at m2 h2 ⊢
  have hL2 : ST.left 100 ⟨#[192]⟩ = [192] := by kernel_rfl
  rw [hL2] at h2
  have hl0 : L2 = [] := by simpa using m2
  subst hl0
  obtain ⟨A2, c2, rfl⟩ := own_form r2.row
  have C2 := Lib.hid (left_any w.heap.size 100 [192] 0 w2 h2 (by decide))
  have K2 := Lib.hid k2
  clear C1 r2 m2 h2 k2 hL2
  go_wp2_with fail
  refine C2.out.mono ?_
  rintro e w3 ⟨rfl, h3, k3⟩
  have C3 : Hid (Calls Tryz.prog 7 #[.pointer (some ⟨w.heap.size, 0, none⟩), .string ⟨#[0, 192, 0]⟩] w3 (FeP w.heap.size 100 ⟨#[192, 0, 192, 0]⟩ w3)) := Lib.hid (feed_any w.heap.size 100 [192] ⟨#[0, 192, 0]⟩ w3 h3 (by decide) (fun W hW => HTb.out W ((B1.out.trans K2.out.1).trans (k3.1.trans hW))))
  have B3 := Lib.hid ((B1.out.trans K2.out.1).trans k3.1)
  clear h3 k3 C2 K2 B1
  go_wp2_with fail
  refine C3.out.mono ?_
  rintro e w4 hF
  obtain ⟨v4, L4, rfl, r4, m4, h4, k4⟩ := hF
  rw [fed_two] at m4 h4 ⊢
  have HB := Lib.hid (B3.out.trans k4.1)
  simp only [List.map_cons, List.map_nil, ping_pk] at m4
  obtain ⟨x, y, rfl⟩ := two_of m4
  simp only [List.map_cons, List.map_nil, List.cons.injEq, and_true] at m4
  obtain ⟨g, p4', hv4, hg4, hg4'⟩ := r4.row.form (by simp)
  subst hv4
  have e4 : w4.cell? ⟨g, 26, none⟩ = some (.int .i64 12) := by
    rw [← add0]
    have := r4.row.cells (g := g) rfl 26 (.int .i64 y.p.kind) (by simp [Pv.cells, pkCells])
    rw [m4.2] at this
    exact this
  clear r4 m4 h4 k4 C3 B3
  go_wp2_with fail
  go_ret
  exact ⟨rfl, HB.out⟩
end Go.Proofs.YtemfcaaoobjgkaaGreatDoor
namespace Go.Proofs.YtemfcaaoobjgkaaGreatDoor
open Go.RowKit

/-- How many bytes pieces have together. -/
def bytesOf (l : List ByteArray) : Nat := (l.map ByteArray.size).sum
theorem bytes_take {l : List ByteArray} {k : Nat} {x : ByteArray} (h : l[k]? = some x) : bytesOf (l.take (k + 1)) = bytesOf (l.take k) + x.size := by
  have e : l.take (k + 1) = l.take k ++ [x] := by rw [List.take_add_one, h]; rfl
  rw [e]; simp [bytesOf]
theorem bytes_le (l : List ByteArray) : ∀ k, bytesOf (l.take k) ≤ bytesOf l := by
  induction l with
  | nil => intro k; simp [bytesOf]
  | cons x l ih => intro k; cases k with
    | zero => simp [bytesOf]
    | succ k => have := ih k; simp [bytesOf] at this ⊢; omega
theorem left_len (m : Int) (U : ByteArray) : (ST.left m U).length ≤ U.size := by
  unfold ST.left
  split
  · simp
  · have h : ∀ X : ByteArray, X.data.toList.length = X.size := fun X => by rw [Array.length_toList]; rfl
    rw [h, ByteArray.size_extract]; omega
theorem left_bad {m : Int} {U : ByteArray} (h : (ST.fed m U).2.2 ≠ 0) : ST.left m U = [] := by unfold ST.left; rw [if_pos h]
theorem join_size (l : List UInt8) (s : ByteArray) : (⟨(l ++ s.data.toList).toArray⟩ : ByteArray).size = l.length + s.size := by
  show (l ++ s.data.toList).toArray.size = _
  simp
end Go.Proofs.YtemfcaaoobjgkaaGreatDoor
namespace Go.Proofs.YtemfcaaoobjgkaaGreatDoor
namespace ST
def bs (l : List UInt8) : ByteArray := ⟨l.toArray⟩
theorem bs_size (l : List UInt8) : (bs l).size = l.length := by show l.toArray.size = _; simp
theorem bs_at (l : List UInt8) (i : Nat) (h : i < (bs l).size) (h' : i < l.length) : (bs l)[i]'h = l[i]'h' := rfl
theorem bs_self (X : ByteArray) : bs X.data.toList = X := by cases X; simp [bs]
theorem beg_app (l t : List UInt8) : Beg (bs l) (bs (l ++ t)) := by
  refine ⟨by rw [bs_size, bs_size]; simp, fun j h1 h2 => ?_⟩
  rw [bs_size] at h1 h2
  rw [bs_at l j (by rw [bs_size]; exact h1) h1, bs_at (l ++ t) j (by rw [bs_size]; exact h2) h2, List.getElem_append_left h1]
theorem bs_drop (l t : List UInt8) (a : Nat) (ha : a ≤ l.length) : (bs (l ++ t)).extract a (bs (l ++ t)).size = bs (((bs l).extract a (bs l).size).data.toList ++ t) := by
  have hz : ((bs l).extract a (bs l).size).size = l.length - a := by rw [ByteArray.size_extract, bs_size]; omega
  have hz' : ((bs l).extract a (bs l).size).data.toList.length = l.length - a := by rw [Array.length_toList]; exact hz
  apply ByteArray.ext_getElem
  · rw [ByteArray.size_extract, bs_size, bs_size, List.length_append, List.length_append, hz']; omega
  · intro i h1 h2
    rw [ByteArray.size_extract, bs_size, List.length_append] at h1
    rw [ByteArray.getElem_extract, bs_at (l ++ t) (a + i) (by rw [bs_size, List.length_append]; omega) (by rw [List.length_append]; omega)]
    rw [bs_at _ i h2 (by rw [List.length_append, hz']; omega)]
    by_cases hi : i < l.length - a
    · rw [List.getElem_append_left (by omega), List.getElem_append_left (by rw [hz']; exact hi)]
      have e : ((bs l).extract a (bs l).size).data.toList[i]'(by rw [hz']; exact hi) = ((bs l).extract a (bs l).size)[i]'(by rw [hz]; exact hi) := by rw [Array.getElem_toList]; rfl
      rw [e, ByteArray.getElem_extract, bs_at l (a + i) (by rw [bs_size]; omega) (by omega)]
    · rw [List.getElem_append_right (by omega), List.getElem_append_right (by rw [hz']; omega)]
      congr 1
      rw [hz']; omega
/-- The packets that a reader with the bytes U tells. -/
def pks (m : Int) (U : ByteArray) : List Pk := (fed m U).1.map (fun b => (PK.getPk b).1)
/-- What pieces tell, behind the bytes that are left, up to the first code. -/
def tell (m : Int) : List ByteArray → List UInt8 → List Pk × Int
  | [], _ => ([], 0)
  | s :: ps, l => if (fed m (bs (l ++ s.data.toList))).2.2 ≠ 0 then (pks m (bs (l ++ s.data.toList)), (fed m (bs (l ++ s.data.toList))).2.2)
    else (pks m (bs (l ++ s.data.toList)) ++ (tell m ps (left m (bs (l ++ s.data.toList)))).1, (tell m ps (left m (bs (l ++ s.data.toList)))).2)
def joined (ps : List ByteArray) : List UInt8 := ps.flatMap fun s => s.data.toList
/-- The same, over whatever reads a packet. -/
def fedF (f : ByteArray → Int) (m : Int) (U : ByteArray) : List ByteArray × Nat × Int := thr U m f (U.size + 1) 0
def leftF (f : ByteArray → Int) (m : Int) (U : ByteArray) : List UInt8 := if (fedF f m U).2.2 ≠ 0 then [] else (U.extract (fedF f m U).2.1 U.size).data.toList
theorem fedF_none (f : ByteArray → Int) (m : Int) (l : List UInt8) (h : (first (bs l) m).2 = 242) : fedF f m (bs l) = ([], 0, 0) := by
  unfold fedF
  have e : (bs l).extract 0 (bs l).size = bs l := by simp
  rw [thr, e, if_neg (by rw [h]; decide), if_pos h]
theorem fedF_more (f : ByteArray → Int) (m : Int) (l t : List UInt8) : ((fedF f m (bs l)).2.2 ≠ 0 → (fedF f m (bs (l ++ t))).1 = (fedF f m (bs l)).1 ∧ (fedF f m (bs (l ++ t))).2.2 = (fedF f m (bs l)).2.2) ∧
    ((fedF f m (bs l)).2.2 = 0 → (first (bs (leftF f m (bs l))) m).2 = 242 ∧ (fedF f m (bs (l ++ t))).1 = (fedF f m (bs l)).1 ++ (fedF f m (bs (leftF f m (bs l) ++ t))).1 ∧ (fedF f m (bs (l ++ t))).2.2 = (fedF f m (bs (leftF f m (bs l) ++ t))).2.2) := by
  have h := thr_more (beg_app l t) m f ((bs l).size + 1) ((bs (l ++ t)).size + 1) 0 (Nat.zero_le _) (by omega) (by omega)
  have e1 : thr (bs l) m f ((bs l).size + 1) 0 = fedF f m (bs l) := rfl
  have e2 : thr (bs (l ++ t)) m f ((bs (l ++ t)).size + 1) 0 = fedF f m (bs (l ++ t)) := rfl
  rw [e1, e2] at h
  refine ⟨h.1, fun h0 => ?_⟩
  obtain ⟨h1, h2, h3⟩ := h.2 h0
  have hl : leftF f m (bs l) = ((bs l).extract (fedF f m (bs l)).2.1 (bs l).size).data.toList := by unfold leftF; rw [if_neg (by simp [h0])]
  generalize leftF f m (bs l) = lf at *
  generalize fedF f m (bs l) = X at *
  obtain ⟨ls, a, c⟩ := X
  simp only at *
  have h1' : a ≤ l.length := by rw [← bs_size l]; exact h1
  have e := bs_drop l t a h1'
  rw [← hl] at e
  have ez : (bs (lf ++ t)).size = (bs (l ++ t)).size - a := by rw [← e, ByteArray.size_extract]; omega
  have h4 := h3 ((bs (lf ++ t)).size + 1) (by omega)
  have h5 := thr_drop (bs (l ++ t)) m f a ((bs (lf ++ t)).size + 1) 0
  rw [e] at h5
  simp only [Nat.add_zero] at h5
  refine ⟨?_, h4.1.trans ?_, h4.2.trans ?_⟩
  · rw [hl, bs_self]; exact h2
  · rw [h5.1]; rfl
  · rw [h5.2]; rfl
theorem fed_eq (m : Int) (U : ByteArray) : fed m U = fedF (fun b => (PK.getPk b).2) m U := by unfold fed fedF; rfl
theorem left_eq (m : Int) (U : ByteArray) : left m U = leftF (fun b => (PK.getPk b).2) m U := by unfold left leftF; rw [fed_eq]
theorem fed_none (m : Int) (l : List UInt8) (h : (first (bs l) m).2 = 242) : fed m (bs l) = ([], 0, 0) := by rw [fed_eq]; exact fedF_none _ m l h
theorem fed_more (m : Int) (l t : List UInt8) : ((fed m (bs l)).2.2 ≠ 0 → (fed m (bs (l ++ t))).1 = (fed m (bs l)).1 ∧ (fed m (bs (l ++ t))).2.2 = (fed m (bs l)).2.2) ∧
    ((fed m (bs l)).2.2 = 0 → (first (bs (left m (bs l))) m).2 = 242 ∧ (fed m (bs (l ++ t))).1 = (fed m (bs l)).1 ++ (fed m (bs (left m (bs l) ++ t))).1 ∧ (fed m (bs (l ++ t))).2.2 = (fed m (bs (left m (bs l) ++ t))).2.2) := by
  simp only [fed_eq, left_eq]
  exact fedF_more _ m l t
theorem tell_all (m : Int) : ∀ (ps : List ByteArray) (l : List UInt8), (first (bs l) m).2 = 242 → tell m ps l = (pks m (bs (l ++ joined ps)), (fed m (bs (l ++ joined ps))).2.2)
  | [], l, h => by
    rw [tell, joined, List.flatMap_nil, List.append_nil, pks, fed_none m l h]; rfl
  | s :: ps, l, _ => by
    have hm := fed_more m (l ++ s.data.toList) (joined ps)
    have e : l ++ joined (s :: ps) = l ++ s.data.toList ++ joined ps := by simp [joined]
    rw [tell, e]
    by_cases hc : (fed m (bs (l ++ s.data.toList))).2.2 ≠ 0
    · rw [if_pos hc]
      obtain ⟨h1, h2⟩ := hm.1 hc
      rw [pks, pks, h1, h2]
    · rw [if_neg hc]
      obtain ⟨h0, h1, h2⟩ := hm.2 (Classical.not_not.1 hc)
      rw [tell_all m ps _ h0, pks, pks, pks, h1, h2, List.map_append]
theorem first_nil (m : Int) : (first (bs []) m).2 = 242 := by unfold first; rw [if_pos (show (bs []).size = 0 by rw [bs_size]; rfl)]
/-- From the beginning. -/
theorem tell_start (m : Int) (ps : List ByteArray) : tell m ps [] = (pks m (bs (joined ps)), (fed m (bs (joined ps))).2.2) := by
  rw [tell_all m ps [] (first_nil m), List.nil_append]
end ST
end Go.Proofs.YtemfcaaoobjgkaaGreatDoor
namespace Go.Proofs.YtemfcaaoobjgkaaGreatDoor
namespace PK
open PR (Has has_both has_ext has_nil has_mk has_left has_right has_self)
/-- The parts that are compared. -/
structure Sm (P Q : Pk) : Prop where
  kind : Q.kind = P.kind
  qos : Q.qos = P.qos
  id : Q.id = P.id
  topic : Q.topic = P.topic
  pay : Q.pay = P.pay
  subs : Q.subs = P.subs
theorem can_pub {P : Pk} (h : P.kind = 3) (hb2 : (bodyO P).2 = 0) : canPub P = true := by
  by_cases hp : canPub P = true
  · exact hp
  · exfalso
    have e : flagsO P = (⟨#[]⟩, 129) := by unfold flagsO; rw [if_pos ⟨h, by simpa using hp⟩]
    unfold bodyO parts at hb2
    rw [if_neg (by omega), if_neg (by omega), if_pos h, e] at hb2
    have a1 := (ad_split hb2).1
    have a2 : (pub1 (⟨#[]⟩, 129) P).2 = 0 := by
      unfold pr at a1
      split at a1
      · exact (ad_split a1).1
      · exact (ad_split (ad_split a1).1).1
    unfold pub1 at a2
    split at a2
    · unfold idd at a2
      split at a2
      · exact absurd (ad_split (ad_split (ad_split a2).1).1).1 (by decide)
      · exact absurd (ad_split (ad_split a2).1).1 (by decide)
    · exact absurd (ad_split a2).1 (by decide)
theorem beg_bare (n : Int) : (begPk n).id = 0 ∧ (begPk n).topic = ⟨#[]⟩ ∧ (begPk n).pay = ⟨#[]⟩ ∧ (begPk n).subs = [] ∧ (n / 16 ≠ 3 → (begPk n).qos = 0) := by
  unfold begPk barePk
  split
  · exact ⟨rfl, rfl, rfl, rfl, fun h => by rename_i h1; exact absurd h1 h⟩
  · exact ⟨rfl, rfl, rfl, rfl, fun _ => rfl⟩
theorem pub_fw {V : ByteArray} {b : Nat} {o : ByteArray × Int} {P : Pk} {q : Int} (hq : q = P.qos) (hi : ¬ 0 < P.qos → P.id = 0) (h : (pub o P).2 = 0) (hV : Has V b (pub o P).1) (hz : b + (pub o P).1.size = V.size) :
    rdPub V ((b + o.1.size : Nat) : Int) P.kind q 0 = ((P.topic, P.id, P.props.map PR.nrm, P.pay), (V.size : Int), 0) := by
  subst hq
  unfold pub pub1 at h hV hz
  obtain ⟨a1, _, a2, a3, a4⟩ := ad_fw h hV
  obtain ⟨b1, b2, b3⟩ := pr_fw P.kind a1 a2
  simp only at b3
  have hid : (tx o P.topic).2 = 0 ∧ Has V b (tx o P.topic).1 ∧ rdI V ((b + (tx o P.topic).1.size : Nat) : Int) P.qos 0 = (P.id, ((b + (if 0 < P.qos then idd (tx o P.topic) P.id else tx o P.topic).1.size : Nat) : Int), 0) := by
    unfold rdI
    by_cases q0 : 0 < P.qos
    · simp only [if_pos q0] at b1 b2 ⊢
      obtain ⟨c1, c2, c3⟩ := idd_fw b1 b2
      exact ⟨c1, c2, c3⟩
    · simp only [if_neg q0] at b1 b2 ⊢
      exact ⟨b1, b2, by rw [hi q0]⟩
  obtain ⟨c1, c2, c3⟩ := hid
  obtain ⟨d1, d2, d3⟩ := tx_fw c1 c2
  have hx := has_ext a3
  unfold rdPub
  rw [d3]
  simp only
  rw [c3]
  simp only
  rw [b3]
  simp only [Int.toNat_natCast]
  rw [show V.size = b + (pr (if 0 < P.qos then idd (tx o P.topic) P.id else tx o P.topic) P.kind P.props).1.size + P.pay.size by omega, hx]
  rfl
/-- What is read of them has the same parts. -/
theorem sm_read {P : Pk} (hc : putC P = 0) (hK : P.kind = 3 ∨ P.kind = 4 ∨ P.kind = 8 ∨ P.kind = 12) (h3 : P.kind ≠ 3 → P.qos = 0 ∧ P.topic = ⟨#[]⟩ ∧ P.pay = ⟨#[]⟩) (h8 : P.kind ≠ 8 → P.subs = []) (hi : (P.kind = 3 → ¬ 0 < P.qos → P.id = 0) ∧ (P.kind = 12 → P.id = 0)) :
    Sm P (getPk (putS P)).1 := by
  obtain ⟨hr, hk, hb, hbk⟩ := put_read P hc
  obtain ⟨m, b, hok, hpos, hg, hm, hbm, hb', hL, hcc, he, hX⟩ := getPk_inv hr
  have hb2 : (bodyO P).2 = 0 := by
    unfold putC at hc
    rw [if_neg (by omega)] at hc
    by_cases h1 : (bodyO P).2 ≠ 0
    · rw [if_pos h1] at hc; exact absurd hc h1
    · exact Classical.not_not.1 h1
  have hcp : P.kind = 3 → canPub P = true := fun h => can_pub h hb2
  obtain ⟨g0, g1, g2, g3⟩ := beg_back P hk hcp
  obtain ⟨b2, p1, p2, p3, p4, p5, p6, p7⟩ := putS_head hk hc g0
  have eb : b2 = b := by
    have := congrArg (fun x => x.2.1) (p1.symm.trans hg)
    simp only at this
    omega
  subst eb
  have hfl : flagsO P = (⟨#[]⟩, 0) := by unfold flagsO; rw [if_neg (fun e => by rw [hcp e.1] at e; exact absurd e.2 (by decide))]
  have hbo : bodyO P = parts (⟨#[]⟩, 0) P := by unfold bodyO; rw [hfl]
  obtain ⟨z1, z2, z3, z4, z5⟩ := beg_bare (b0 (putS P))
  have hqz : P.kind ≠ 3 → (begPk (b0 (putS P))).qos = 0 := fun h => z5 (fun e => h (by
    have hk3 : (begPk (b0 (putS P))).kind = 3 := by unfold begPk; rw [if_pos e]; rfl
    omega))
  have hq3 : P.kind = 3 → (begPk (b0 (putS P))).qos = P.qos := fun h => by rw [p4]; exact g3 h
  obtain ⟨P0, hP0⟩ : ∃ P0, P0 = begPk (b0 (putS P)) := ⟨_, rfl⟩
  rw [← hP0] at hX z1 z2 z3 z4 hqz hq3 hbk
  rw [hX]
  simp only
  rw [hbk]
  rw [hbo] at p2 p3 p6
  have e0 : ((b2 : Nat) : Int) = ((b2 + ((⟨#[]⟩, 0) : ByteArray × Int).1.size : Nat) : Int) := rfl
  rcases hK with k | k | k | k
  · have e : parts (⟨#[]⟩, 0) P = pub (⟨#[]⟩, 0) P := by unfold parts; rw [if_neg (by omega), if_neg (by omega), if_pos k]
    rw [e] at p2 p3 p6
    have hp := pub_fw (o := (⟨#[]⟩, 0)) (q := P0.qos) (hq3 k) (hi.1 k) p6 p3 p2
    have hQ : (partsK P.kind (putS P) b2 P0).1 = { P0 with topic := P.topic, id := P.id, props := P.props.map PR.nrm, pay := P.pay } := by
      unfold partsK
      rw [if_neg (by omega), if_neg (by omega), if_pos k, z1, e0, hp]
    rw [hQ]
    exact ⟨hbk, hq3 k, rfl, rfl, rfl, z4.trans (h8 (by omega)).symm⟩
  · obtain ⟨q1, q2, q3⟩ := h3 (by omega)
    have e : parts (⟨#[]⟩, 0) P = endO (idd (⟨#[]⟩, 0) P.id) P.kind P.code P.props := by unfold parts; rw [if_neg (by omega), if_neg (by omega), if_neg (by omega), if_neg (by omega), if_neg (by omega), if_neg (by omega), if_pos (by omega)]; rfl
    rw [e] at p2 p3 p6
    obtain ⟨a1, a2, a3⟩ := end_fw P.kind P.code P.props p6 p3 p2
    obtain ⟨b1, _, b3⟩ := idd_fw a1 a2
    have hQ : (partsK P.kind (putS P) b2 P0).1 = { P0 with id := P.id, code := P.code, props := P.props.map PR.nrm } := by
      unfold partsK
      rw [if_neg (by omega), if_neg (by omega), if_neg (by omega), if_neg (by omega), if_neg (by omega), if_neg (by omega), if_pos (by omega), e0, b3, bnd_ok rfl]
      unfold rdEndP
      rw [a3]
    rw [hQ]
    exact ⟨hbk, (hqz (by omega)).trans q1.symm, rfl, z2.trans q2.symm, z3.trans q3.symm, z4.trans (h8 (by omega)).symm⟩
  · obtain ⟨q1, q2, q3⟩ := h3 (by omega)
    have e : parts (⟨#[]⟩, 0) P = eachO (head (⟨#[]⟩, 0) P) P.subs sub := by unfold parts; rw [if_neg (by omega), if_neg (by omega), if_neg (by omega), if_pos k]
    rw [e] at p2 p3 p6
    obtain ⟨a1, a2, a3⟩ := each_fw (rd := rdSub (putS P)) (fun o x => sub_fw) (fun o x => sub_pos) _ _ p6 p3 p2
    obtain ⟨b1, b2', b3⟩ := rdHd_fw (k := P.kind) (l := P.props) a1 a2
    simp only at b3
    have hQ : (partsK P.kind (putS P) b2 P0).1 = { P0 with id := P.id, props := P.props.map PR.nrm, subs := P.subs } := by
      unfold partsK
      rw [if_neg (by omega), if_neg (by omega), if_neg (by omega), if_pos k, e0, b3, bnd_ok rfl, show lst _ _ _ ((b2 + (pr (idd (⟨#[]⟩, 0) P.id) P.kind P.props).1.size : Nat) : Int) [] = _ from a3, bnd_ok rfl]
    rw [hQ]
    exact ⟨hbk, (hqz (by omega)).trans q1.symm, rfl, z2.trans q2.symm, z3.trans q3.symm, rfl⟩
  · obtain ⟨q1, q2, q3⟩ := h3 (by omega)
    have hQ : (partsK P.kind (putS P) b2 P0).1 = P0 := by
      unfold partsK
      rw [if_neg (by omega), if_neg (by omega), if_neg (by omega), if_neg (by omega), if_neg (by omega), if_neg (by omega), if_neg (by omega), if_neg (by omega)]
    rw [hQ]
    exact ⟨hbk, (hqz (by omega)).trans q1.symm, z1.trans (hi.2 k).symm, z2.trans q2.symm, z3.trans q3.symm, z4.trans (h8 (by omega)).symm⟩
end PK
namespace ST
theorem first_put_m (m : Int) (P : Pk) (hc : PK.putC P = 0) (hm : ((PK.putS P).size : Int) ≤ m) : first (PK.putS P) m = ((((PK.putS P).size : Nat) : Int), (0 : Int)) := by
  obtain ⟨n, b, i1, i2, i3, i4, i5, i6, _⟩ := PK.getPk_inv (PK.put_read P hc).1
  unfold first
  rw [if_neg (by omega), i3]
  simp only [ne_eq, not_true_eq_false, if_false]
  rw [if_neg (by omega), if_neg (by omega)]
  congr 1
  omega
theorem fed_cons_m (m : Int) (P : Pk) (hc : PK.putC P = 0) (hm : ((PK.putS P).size : Int) ≤ m) (U : ByteArray) : fed m (PK.putS P ++ U) = (PK.putS P :: (fed m U).1, (PK.putS P).size + (fed m U).2.1, (fed m U).2.2) := by
  have hf : first (PK.putS P ++ U) m = ((((PK.putS P).size : Nat) : Int), (0 : Int)) := by
    rw [← first_put_m m P hc hm]
    exact first_keeps (PK.beg_app _ _) m (by rw [first_put_m m P hc hm]; show (0 : Int) ≠ 242; decide)
  have hr := (PK.put_read P hc).1
  have hpos : 2 ≤ (PK.putS P).size := by
    obtain ⟨k, hk, hk1, hk2⟩ := first_ok (PK.putS P) m (by rw [first_put_m m P hc hm])
    omega
  have ht := app_take (PK.putS P) U
  have hd := app_drop (PK.putS P) U
  have hz : (PK.putS P ++ U).size = (PK.putS P).size + U.size := ByteArray.size_append
  generalize PK.putS P = b at *
  unfold fed
  rw [thr, whole, hf]
  simp only [Int.toNat_natCast, if_true, Nat.zero_add]
  rw [ht, if_pos hr]
  have h1 := thr_drop (b ++ U) m (fun b => (PK.getPk b).2) b.size (b ++ U).size 0
  have h2 := thr_at (b ++ U) m (fun b => (PK.getPk b).2) b.size (b ++ U).size 0
  rw [hd, Nat.add_zero] at h1 h2
  rw [thr_fuel U m (fun b => (PK.getPk b).2) (b ++ U).size (U.size + 1) 0 (by omega) (by omega) (by omega)] at h1 h2
  exact Prod.ext (by simp only; rw [h1.1]) (Prod.ext (by simp only; rw [h2]) (by simp only; rw [h1.2]))
/-- What was put in a row is found, packet by packet, and nothing is left. -/
theorem fed_row (m : Int) (l : List Pk) (h : ∀ P ∈ l, PK.putC P = 0 ∧ ((PK.putS P).size : Int) ≤ m) : fed m (cat (l.map PK.putS)) = (l.map PK.putS, (cat (l.map PK.putS)).size, 0) := by
  induction l with
  | nil => exact fed_none m [] (first_nil m)
  | cons P l ih =>
    have h2 := ih (fun y hy => h y (by simp [hy]))
    have e : cat (List.map PK.putS (P :: l)) = PK.putS P ++ cat (l.map PK.putS) := rfl
    rw [e, fed_cons_m m P (h P (by simp)).1 (h P (by simp)).2, h2]
    simp only [List.map_cons, ByteArray.size_append]
theorem left_row (m : Int) (l : List Pk) (h : ∀ P ∈ l, PK.putC P = 0 ∧ ((PK.putS P).size : Int) ≤ m) : left m (cat (l.map PK.putS)) = [] := by
  unfold left
  rw [fed_row m l h, if_neg (fun e => e rfl)]
  simp
end ST
end Go.Proofs.YtemfcaaoobjgkaaGreatDoor
namespace Go.Proofs.YtemfcaaoobjgkaaGreatDoor
namespace ST
theorem thr_cat (s : ByteArray) (m : Int) (f : ByteArray → Int) : ∀ (u a : Nat), a ≤ s.size → (cat (thr s m f u a).1).size + a = (thr s m f u a).2.1
  | 0, a, _ => by rw [thr]; simp only [cat]; show 0 + a = a; omega
  | u + 1, a, h => by
    rw [thr]
    by_cases h1 : (first (s.extract a s.size) m).2 = 0
    · obtain ⟨k, hk, hk1, hk2⟩ := first_ok _ _ h1
      rw [ByteArray.size_extract] at hk2
      rw [hk]
      simp only [Int.toNat_natCast, if_true]
      by_cases hc : f (s.extract a (a + k)) = 0
      · rw [if_pos hc]
        have ih := thr_cat s m f u (a + k) (by omega)
        simp only [cat, ByteArray.size_append, ByteArray.size_extract]
        omega
      · rw [if_neg hc]
        simp only [cat]; show 0 + a = a; omega
    · rw [if_neg h1]
      simp only [cat]; show 0 + a = a; omega
theorem fed_cat (m : Int) (U : ByteArray) : (cat (fed m U).1).size = (fed m U).2.1 := by
  have h := thr_cat U m (fun b => (PK.getPk b).2) (U.size + 1) 0 (Nat.zero_le _)
  unfold fed
  omega
theorem cat_app : ∀ (l t : List ByteArray), (cat (l ++ t)).size = (cat l).size + (cat t).size
  | [], t => by rw [List.nil_append]; show _ = 0 + _; omega
  | x :: l, t => by
    have ih := cat_app l t
    rw [List.cons_append, cat, cat, ByteArray.size_append, ByteArray.size_append, ih]
    omega
/-- Bytes All, of which some were fed: they told the packets done, l is left of them, and rest is still to come. -/
structure Way (m : Int) (All : List UInt8) (done : List ByteArray) (l rest : List UInt8) : Prop where
  fed : (fed m (bs All)).1 = done ++ (fed m (bs (l ++ rest))).1
  code : (ST.fed m (bs (l ++ rest))).2.2 = 0
  none : (first (bs l) m).2 = 242
  size : (cat done).size + l.length + rest.length = All.length
theorem Way.start {m : Int} {All : List UInt8} (h : (ST.fed m (bs All)).2.2 = 0) : Way m All [] [] All := ⟨rfl, h, first_nil m, by show 0 + 0 + _ = _; omega⟩
theorem Way.step {m : Int} {All : List UInt8} {done : List ByteArray} {l rest X rest' : List UInt8} (h : Way m All done l rest) (hr : rest = X ++ rest') :
    (ST.fed m (bs (l ++ X))).2.2 = 0 ∧ Way m All (done ++ (ST.fed m (bs (l ++ X))).1) (left m (bs (l ++ X))) rest' := by
  subst hr
  obtain ⟨h1, h2, h3, h4⟩ := h
  have e : l ++ (X ++ rest') = l ++ X ++ rest' := (List.append_assoc ..).symm
  rw [e] at h1 h2
  obtain ⟨b1, b2⟩ := fed_more m (l ++ X) rest'
  have hc : (ST.fed m (bs (l ++ X))).2.2 = 0 := by
    by_cases hc : (ST.fed m (bs (l ++ X))).2.2 = 0
    · exact hc
    · rw [(b1 hc).2] at h2; exact absurd h2 hc
  obtain ⟨c1, c2, c3⟩ := b2 hc
  refine ⟨hc, ?_, ?_, c1, ?_⟩
  · rw [h1, c2, List.append_assoc]
  · rw [← c3]; exact h2
  · have hle := fed_le m (bs (l ++ X))
    have hl : (left m (bs (l ++ X))).length = (bs (l ++ X)).size - (ST.fed m (bs (l ++ X))).2.1 := by
      unfold left
      rw [if_neg (by simp [hc])]
      have hz : ∀ Y : ByteArray, Y.data.toList.length = Y.size := fun Y => by rw [Array.length_toList]; rfl
      rw [hz, ByteArray.size_extract]; omega
    rw [cat_app, fed_cat, hl]
    rw [bs_size] at hle ⊢
    simp only [List.length_append] at hle h4 ⊢
    omega
theorem Way.stop {m : Int} {All : List UInt8} {done : List ByteArray} {l : List UInt8} (h : Way m All done l []) (hz : (cat (ST.fed m (bs All)).1).size = All.length) : done = (ST.fed m (bs All)).1 ∧ l = [] := by
  obtain ⟨h1, h2, h3, h4⟩ := h
  rw [List.append_nil, fed_none m l h3] at h1
  simp only [List.append_nil] at h1
  refine ⟨h1.symm, ?_⟩
  rw [h1] at hz
  simp only [List.length_nil] at h4
  exact List.length_eq_zero_iff.1 (by omega)
end ST
end Go.Proofs.YtemfcaaoobjgkaaGreatDoor
namespace Go.Proofs.YtemfcaaoobjgkaaGreatDoor

namespace PK
theorem getG_zero (s : ByteArray) (k : Nat) : ∀ (u i : Nat) (n : Int), (VP.getG s k u i n).2.2 ≠ 0 → (VP.getG s k u i n).1 = 0
  | 0, _, _, _ => by rw [VP.getG_0]
  | u + 1, i, n, h => by
    rw [VP.getG] at h ⊢
    split
    · rename_i h1
      rw [dif_pos h1] at h
      split
      · rename_i h2
        rw [if_pos h2] at h
        split
        · rename_i h3
          rw [if_pos h3] at h
          exact absurd rfl h
        · rfl
      · rename_i h2
        rw [if_neg h2] at h
        exact getG_zero s k u (i + 1) _ h
    · rfl
theorem get_le (s : ByteArray) (a : Int) : (VP.get s a).1 ≤ 268435455 := by
  by_cases ho : a < 0 ∨ (s.size : Int) < a
  · rw [VP.get_out s a ho]; decide
  · obtain ⟨k, rfl⟩ := Int.eq_ofNat_of_zero_le (show 0 ≤ a by omega)
    by_cases hc : (VP.get s (k : Int)).2.2 = 0
    · obtain ⟨x, m, _, _, h3, h4, _, h6, _⟩ := VP.get_inv s k (by omega) hc
      rw [h6]; exact h4
    · rw [VP.get_in s k (by omega)] at hc ⊢
      rw [getG_zero s k 4 0 0 hc]; decide
theorem dat_le (s : ByteArray) (a : Int) : (VP.dat s a).1.size ≤ s.size := by
  unfold VP.dat
  split
  · split
    · exact Nat.zero_le _
    · simp only; rw [ByteArray.size_extract]; omega
  · exact Nat.zero_le _
theorem getT_le (s : ByteArray) (a : Int) : (TX.getT s a).1.size ≤ s.size := by
  unfold TX.getT
  split
  · exact Nat.zero_le _
  · split
    · exact Nat.zero_le _
    · exact dat_le s a
theorem rdv_fine (T : ByteArray) (p id : Int) (hT : T.size ≤ 140737488351232) : Fine (PR.rdv T p id).1 := by
  have z : (ByteArray.mk #[]).size = 0 := rfl
  have g1 := PR.get_nn T p
  have g2 := get_le T p
  have d1 := dat_le T p
  have t1 := getT_le T p
  have t2 := getT_le T (TX.getT T p).2.1
  have r1 := rd_nn T p (PR.wd (PR.kd id))
  unfold PR.rdv
  repeat' split
  all_goals
    refine ⟨⟨?_, ?_⟩, ?_, ?_⟩ <;> simp only [z] <;> omega
theorem g1_fine (T : ByteArray) (p : Int) (out : List Pr) (hT : T.size ≤ 140737488351232) (h : (PR.g1 T p out).2.2 = 0) : Fine (PR.g1 T p out).1 := by
  unfold PR.g1 at h ⊢
  split at h
  · exact absurd h (by simp)
  · rename_i c1
    rw [if_neg c1]
    split at h
    · exact absurd h (by simp)
    · rename_i c2
      rw [if_neg c2]
      split at h
      · rename_i c3; exact absurd h c3
      · rename_i c3
        rw [if_neg c3]
        split at h
        · exact absurd h (by simp)
        · rename_i c4
          rw [if_neg c4]
          exact rdv_fine _ _ _ hT
theorem gl_fine (U : ByteArray) (hU : U.size ≤ 140737488351232) : ∀ (u : Nat) (p : Int) (out : List Pr), (∀ q ∈ out, Fine q) → ∀ q ∈ (PR.gl U u p out).1, Fine q
  | 0, _, _, _ => by intro q hq; simp [PR.gl] at hq
  | u + 1, p, out, ho => by
    rw [PR.gl]
    split
    · exact ho
    · split
      · intro q hq; simp at hq
      · rename_i h1
        refine gl_fine U hU u _ _ ?_
        intro q hq
        rcases List.mem_append.1 hq with hq | hq
        · exact ho q hq
        · simp at hq; subst hq; exact g1_fine U p out hU (Classical.not_not.1 h1)
theorem getL_fine (s : ByteArray) (a : Int) (hs : s.size ≤ 140737488351232) : ∀ q ∈ (PR.getL s a).1, Fine q := by
  unfold PR.getL
  repeat' split
  all_goals first
    | (intro q hq; simp at hq; done)
    | exact gl_fine _ (by rw [ByteArray.size_extract]; omega) 66 0 [] (fun q hq => by cases hq)
end PK
/-- A packet whose every part a machine can hold. -/
structure PkF (P : Pk) : Prop where
  fine : PkFine P
  pr : P.props.length ≤ 100 ∧ ∀ p ∈ P.props, Fine p
  wpr : P.wprops.length ≤ 100 ∧ ∀ p ∈ P.wprops, Fine p
namespace PK
theorem and3 (n : Int) (h0 : 0 ≤ n) (h1 : n ≤ 255) : 0 ≤ bits .and .i64 n 3 ∧ bits .and .i64 n 3 ≤ 3 := by
  obtain ⟨k, rfl⟩ := Int.eq_ofNat_of_zero_le h0
  have h : ∀ k : Fin 256, 0 ≤ bits .and .i64 ((k.val : Nat) : Int) 3 ∧ bits .and .i64 ((k.val : Nat) : Int) 3 ≤ 3 := by decide +kernel
  exact h ⟨k, by omega⟩
theorem i64_of {n : Int} (h0 : 0 ≤ n) (h1 : n ≤ 4294967295) : I64 n := ⟨by omega, by omega⟩
theorem bnd_f {α : Type} {P : Pk} {x : α × Int × Int} {f : α → Int → Pk × Int × Int} (hP : PkF P) (h : PkF (f x.1 x.2.1).1) : PkF (bnd P x f).1 := by
  unfold bnd
  split
  · exact hP
  · exact h
theorem rdPr_f (s : ByteArray) (a k : Int) (hs : s.size ≤ 140737488351232) : (rdPr s a k).1.length ≤ 100 ∧ ∀ p ∈ (rdPr s a k).1, Fine p :=
  ⟨by have := (PR.getL_facts s a).2.2; show (PR.getL s a).1.length ≤ 100; omega, getL_fine s a hs⟩
theorem lst_le {α : Type} (rd : Int → α × Int × Int) (sz : Nat) : ∀ (u : Nat) (a : Int) (out : List α), out.length ≤ 64 → (lst rd sz u a out).1.length ≤ 64
  | 0, _, _, _ => by simp [lst]
  | u + 1, a, out, h => by
    rw [lst]
    split
    · split
      · simp
      · exact h
    · split
      · simp
      · split
        · simp
        · exact lst_le rd sz u _ _ (by simp; omega)
theorem lst_all {α : Type} (rd : Int → α × Int × Int) (sz : Nat) (p : α → Prop) (hp : ∀ a, p (rd a).1) : ∀ (u : Nat) (a : Int) (out : List α), (∀ x ∈ out, p x) → ∀ x ∈ (lst rd sz u a out).1, p x
  | 0, _, _, _ => by intro x hx; simp [lst] at hx
  | u + 1, a, out, h => by
    rw [lst]
    split
    · split
      · intro x hx; simp at hx
      · exact h
    · split
      · intro x hx; simp at hx
      · split
        · intro x hx; simp at hx
        · refine lst_all rd sz p hp u _ _ ?_
          intro x hx
          rcases List.mem_append.1 hx with hx | hx
          · exact h x hx
          · simp at hx; subst hx; exact hp a
end PK
end Go.Proofs.YtemfcaaoobjgkaaGreatDoor
namespace Go.Proofs.YtemfcaaoobjgkaaGreatDoor
open Go.RowKit

namespace PK
theorem rdC_u8 (s : ByteArray) (a : Int) : 0 ≤ (rdC s a).1 ∧ (rdC s a).1 ≤ 255 := ⟨(rd_nn s a 1).1, rd_1le s a⟩
theorem rdSub_f (s : ByteArray) (hs : s.size ≤ 140737488351232) (a : Int) : SbFine (rdSub s a).1 := by
  have h1 := getT_le s a
  have h2 := rd_nn s (TX.getT s a).2.1 1
  have h3 := rd_1le s (TX.getT s a).2.1
  have b1 := and3 _ h2.1 h3
  have b2 := and3 ((VP.rd s (TX.getT s a).2.1 1).1 / 16) (by omega) (by omega)
  exact ⟨Nat.le_trans h1 hs, ⟨by show _ ≤ bits .and .i64 _ 3; omega, by show bits .and .i64 _ 3 ≤ _; omega⟩, ⟨by show _ ≤ bits .and .i64 _ 3; omega, by show bits .and .i64 _ 3 ≤ _; omega⟩⟩
theorem rdN_i (s : ByteArray) (a wd : Int) : I64 (rdN s a wd).1 := i64_of (rd_nn s a wd).1 (rd_nn s a wd).2
theorem rdId_i (s : ByteArray) (a : Int) : I64 (rdId s a).1 := i64_of (rd_nn s a 2).1 (rd_nn s a 2).2
theorem rdT_s (s : ByteArray) (hs : s.size ≤ 140737488351232) (a : Int) : Short (rdT s a).1 := Nat.le_trans (getT_le s a) hs
theorem rdD_s (s : ByteArray) (hs : s.size ≤ 140737488351232) (a : Int) : Short (rdD s a).1 := Nat.le_trans (dat_le s a) hs
section
variable {s : ByteArray} (hs : s.size ≤ 140737488351232)
include hs
theorem rdPass_f' (a : Int) (P : Pk) (h : PkF P) : PkF (rdPass s a P).1 := by
  unfold rdPass
  split
  · refine bnd_f h ?_
    obtain ⟨⟨k1, k2, k3, k4, k5, k6, k7, k8, k9, k10, k11, k12, k13, k14, k15, k16⟩, p1, p2⟩ := h
    exact ⟨⟨k1, k2, k3, k4, k5, k6, k7, k8, k9, k10, k11, k12, rdD_s s hs a, k14, k15, k16⟩, p1, p2⟩
  · exact h
theorem rdUser_f' (a : Int) (P : Pk) (h : PkF P) : PkF (rdUser s a P).1 := by
  unfold rdUser
  split
  · refine bnd_f h (rdPass_f' hs _ _ ?_)
    obtain ⟨⟨k1, k2, k3, k4, k5, k6, k7, k8, k9, k10, k11, k12, k13, k14, k15, k16⟩, p1, p2⟩ := h
    exact ⟨⟨k1, k2, k3, k4, k5, k6, k7, k8, k9, k10, k11, rdT_s s hs a, k13, k14, k15, k16⟩, p1, p2⟩
  · exact rdPass_f' hs _ _ h
theorem rdWill_f' (a : Int) (P : Pk) (h : PkF P) : PkF (rdWill s a P).1 := by
  unfold rdWill
  split
  · refine bnd_f h (bnd_f h (bnd_f h (rdUser_f' hs _ _ ?_)))
    obtain ⟨⟨k1, k2, k3, k4, k5, k6, k7, k8, k9, k10, k11, k12, k13, k14, k15, k16⟩, p1, p2⟩ := h
    exact ⟨⟨k1, k2, k3, k4, k5, k6, k7, k8, rdT_s s hs _, rdD_s s hs _, k11, k12, k13, k14, k15, k16⟩, p1, rdPr_f s a 0 hs⟩
  · exact rdUser_f' hs _ _ h
theorem rdConn1_f (a : Int) (P : Pk) (h : PkF P) : PkF (rdConn1 s a P).1 := by
  unfold rdConn1
  refine bnd_f h (bnd_f h (bnd_f h (rdWill_f' hs _ _ ?_)))
  obtain ⟨⟨k1, k2, k3, k4, k5, k6, k7, k8, k9, k10, k11, k12, k13, k14, k15, k16⟩, p1, p2⟩ := h
  exact ⟨⟨k1, k2, k3, k4, k5, k6, rdT_s s hs _, rdN_i s _ 2, k9, k10, k11, k12, k13, k14, k15, k16⟩, rdPr_f s _ P.kind hs, p2⟩
theorem rdConn_f (a : Int) (P : Pk) (h : PkF P) : PkF (rdConn s a P).1 := by
  unfold rdConn
  refine bnd_f h ?_
  split
  · exact h
  · refine bnd_f h ?_
    split
    · exact h
    · refine bnd_f h (rdConn1_f hs _ _ ?_)
      have n0 := (rd_nn s (rdN s (rdT s a).2.1 1).2.1 1).1
      have n1 := rd_1le s (rdN s (rdT s a).2.1 1).2.1
      have b := and3 ((VP.rd s (rdN s (rdT s a).2.1 1).2.1 1).1 / 8) (by omega) (by omega)
      obtain ⟨⟨k1, k2, k3, k4, k5, k6, k7, k8, k9, k10, k11, k12, k13, k14, k15, k16⟩, p1, p2⟩ := h
      exact ⟨⟨k1, k2, k3, k4, k5, k6, k7, k8, k9, k10, i64_of b.1 (Int.le_trans b.2 (by decide)), k12, k13, k14, k15, k16⟩, p1, p2⟩
theorem rdEndP_f (a k : Int) (P : Pk) (h : PkF P) : PkF (rdEndP s a k P).1 := by
  obtain ⟨⟨k1, k2, k3, k4, k5, k6, k7, k8, k9, k10, k11, k12, k13, k14, k15, k16⟩, p1, p2⟩ := h
  have e : (0 ≤ (rdEnd s a k).1.1 ∧ (rdEnd s a k).1.1 ≤ 255) ∧ ((rdEnd s a k).1.2.length ≤ 100 ∧ ∀ p ∈ (rdEnd s a k).1.2, Fine p) := by
    unfold rdEnd
    repeat' split
    · exact ⟨⟨Int.le_refl 0, (by decide : (0 : Int) ≤ 255)⟩, by simp, fun p hp => by cases hp⟩
    · exact ⟨⟨Int.le_refl 0, (by decide : (0 : Int) ≤ 255)⟩, by simp, fun p hp => by cases hp⟩
    · exact ⟨rdC_u8 s a, by simp, fun p hp => by cases hp⟩
    · exact ⟨rdC_u8 s a, rdPr_f s _ k hs⟩
  exact ⟨⟨k1, k2, k3, k4, k5, e.1, k7, k8, k9, k10, k11, k12, k13, k14, k15, k16⟩, e.2, p2⟩
theorem partsK_f (k a : Int) (P : Pk) (h : PkF P) : PkF (partsK k s a P).1 := by
  unfold partsK
  split
  · exact rdConn_f hs a P h
  split
  · refine bnd_f h (bnd_f h (bnd_f h ?_))
    obtain ⟨⟨k1, k2, k3, k4, k5, k6, k7, k8, k9, k10, k11, k12, k13, k14, k15, k16⟩, p1, p2⟩ := h
    exact ⟨⟨k1, k2, k3, k4, k5, rdC_u8 s _, k7, k8, k9, k10, k11, k12, k13, k14, k15, k16⟩, rdPr_f s _ k hs, p2⟩
  split
  · obtain ⟨⟨k1, k2, k3, k4, k5, k6, k7, k8, k9, k10, k11, k12, k13, k14, k15, k16⟩, p1, p2⟩ := h
    refine ⟨⟨k1, k2, ?_, rdT_s s hs a, ?_, k6, k7, k8, k9, k10, k11, k12, k13, k14, k15, k16⟩, rdPr_f s _ k hs, p2⟩
    · show I64 (rdI s (rdT s a).2.1 P.qos P.id).1
      unfold rdI
      split
      · exact rdId_i s _
      · exact k3
    · show (s.extract _ s.size).size ≤ _
      rw [ByteArray.size_extract]; omega
  split
  · refine bnd_f h (bnd_f h ?_)
    obtain ⟨⟨k1, k2, k3, k4, k5, k6, k7, k8, k9, k10, k11, k12, k13, k14, k15, k16⟩, p1, p2⟩ := h
    exact ⟨⟨k1, k2, rdId_i s a, k4, k5, k6, k7, k8, k9, k10, k11, k12, k13, k14, ⟨Nat.le_trans (lst_le _ _ 66 _ [] (by simp)) (by decide), lst_all _ _ _ (rdSub_f s hs) 66 _ [] (fun x hx => by cases hx)⟩, k16⟩, rdPr_f s _ k hs, p2⟩
  split
  · refine bnd_f h (bnd_f h ?_)
    obtain ⟨⟨k1, k2, k3, k4, k5, k6, k7, k8, k9, k10, k11, k12, k13, k14, k15, k16⟩, p1, p2⟩ := h
    exact ⟨⟨k1, k2, rdId_i s a, k4, k5, k6, k7, k8, k9, k10, k11, k12, k13, k14, k15, ⟨Nat.le_trans (lst_le _ _ 66 _ [] (by simp)) (by decide), lst_all _ _ _ (rdT_s s hs) 66 _ [] (fun x hx => by cases hx)⟩⟩, rdPr_f s _ k hs, p2⟩
  split
  · refine bnd_f h (bnd_f h ?_)
    obtain ⟨⟨k1, k2, k3, k4, k5, k6, k7, k8, k9, k10, k11, k12, k13, k14, k15, k16⟩, p1, p2⟩ := h
    exact ⟨⟨k1, k2, rdId_i s a, k4, k5, k6, k7, k8, k9, k10, k11, k12, k13, ⟨Nat.le_trans (lst_le _ _ 66 _ [] (by simp)) (by decide), lst_all _ _ (fun c => 0 ≤ c ∧ c ≤ 255) (rdC_u8 s) 66 _ [] (fun x hx => by cases hx)⟩, k15, k16⟩, rdPr_f s _ k hs, p2⟩
  split
  · refine bnd_f h (rdEndP_f hs _ _ _ ?_)
    obtain ⟨⟨k1, k2, k3, k4, k5, k6, k7, k8, k9, k10, k11, k12, k13, k14, k15, k16⟩, p1, p2⟩ := h
    exact ⟨⟨k1, k2, rdId_i s a, k4, k5, k6, k7, k8, k9, k10, k11, k12, k13, k14, k15, k16⟩, p1, p2⟩
  split
  · exact rdEndP_f hs _ _ _ h
  · exact h
end
theorem bare_f (k : Int) (d r : Bool) (q : Int) (hk : I64 k) (hq : I64 q) : PkF (barePk k d r q) := by
  have z : Short (ByteArray.mk #[]) := Nat.zero_le _
  have i0 : I64 0 := ⟨by decide, by decide⟩
  exact ⟨⟨hk, hq, i0, z, z, ⟨(by decide : (0 : Int) ≤ 0), (by decide : (0 : Int) ≤ 255)⟩, z, i0, z, z, i0, z, z, ⟨Nat.zero_le _, fun c hc => by cases hc⟩, ⟨Nat.zero_le _, fun c hc => by cases hc⟩, ⟨Nat.zero_le _, fun c hc => by cases hc⟩⟩, ⟨Nat.zero_le _, fun c hc => by cases hc⟩, ⟨Nat.zero_le _, fun c hc => by cases hc⟩⟩
theorem begPk_f (n : Int) (h0 : 0 ≤ n) (h1 : n ≤ 255) : PkF (begPk n) := by
  unfold begPk
  split
  · have b := and3 (n % 16 / 2) (by omega) (by omega)
    exact bare_f _ _ _ _ ⟨by decide, by decide⟩ (i64_of b.1 (Int.le_trans b.2 (by decide)))
  · exact bare_f _ _ _ _ ⟨by omega, by omega⟩ ⟨by decide, by decide⟩
theorem b0_u8 (s : ByteArray) : 0 ≤ b0 s ∧ b0 s ≤ 255 := by
  unfold b0
  split
  · rename_i h
    have := VP.byte_lt s 0 h
    omega
  · exact ⟨by decide, by decide⟩
theorem getPk_f (s : ByteArray) (hs : s.size ≤ 140737488351232) : PkF (getPk s).1 := by
  have hz : PkF zeroPk := bare_f 0 false false 0 ⟨by decide, by decide⟩ ⟨by decide, by decide⟩
  unfold getPk
  repeat' split
  all_goals first
    | exact hz
    | exact partsK_f hs _ _ _ (begPk_f _ (b0_u8 s).1 (b0_u8 s).2)
end PK
theorem own_codes {w : World} {B : Nat} {A : Option Addr} {n cap : Nat} {l : List Int} (h : w.ownsRow B 30 1 (.slice A n cap) n (flatC l)) : Codes w A l := fun i x hx => by
  have hn : l.length = n := by simpa [flatC] using h.1
  have hi : i < l.length := (List.getElem?_eq_some_iff.1 hx).1
  obtain ⟨g, c', hv, hg, hg'⟩ := h.form (by omega)
  injection hv with hv _ _
  subst hv
  refine ⟨g, 0, rfl, hg', ?_⟩
  rw [Nat.zero_add, ← add0]
  exact h.cells (g := g) rfl i _ (by rw [flatC, List.getElem?_map, hx]; rfl)
theorem own_texts {w : World} {B : Nat} {A : Option Addr} {n cap : Nat} {l : List ByteArray} (h : w.ownsRow B 9 1 (.slice A n cap) n (flatT l)) : Texts w A l := fun i x hx => by
  have hn : l.length = n := by simpa [flatT] using h.1
  have hi : i < l.length := (List.getElem?_eq_some_iff.1 hx).1
  obtain ⟨g, c', hv, hg, hg'⟩ := h.form (by omega)
  injection hv with hv _ _
  subst hv
  refine ⟨g, 0, rfl, hg', ?_⟩
  rw [Nat.zero_add, ← add0]
  exact h.cells (g := g) rfl i _ (by rw [flatT, List.getElem?_map, hx]; rfl)
theorem flatB_at : ∀ (l : List Sb) (i : Nat) (s : Sb), l[i]? = some s → (flatB l)[i * 5]? = some (.string s.f) ∧ (flatB l)[i * 5 + 1]? = some (.int .i64 s.q) ∧ (flatB l)[i * 5 + 2]? = some (.bool s.nl) ∧ (flatB l)[i * 5 + 3]? = some (.bool s.ap) ∧ (flatB l)[i * 5 + 4]? = some (.int .i64 s.h)
  | [], i, s, h => by simp at h
  | x :: l, 0, s, h => by simp at h; subst h; simp [flatB, Sb.cells]
  | x :: l, i + 1, s, h => by
    have ih := flatB_at l i s (by simpa using h)
    have e : ∀ j, (flatB (x :: l))[(i + 1) * 5 + j]? = (flatB l)[i * 5 + j]? := fun j => by
      have : (i + 1) * 5 + j = 5 + (i * 5 + j) := by omega
      rw [this]
      simp only [flatB, List.flatMap_cons]
      rw [List.getElem?_append_right (by simp [Sb.cells])]
      simp [Sb.cells]
    have e0 := e 0
    simp only [Nat.add_zero] at e0
    rw [e0, e 1, e 2, e 3, e 4]
    exact ih
theorem own_subs {w : World} {B : Nat} {A : Option Addr} {n cap : Nat} {l : List Sb} (hn : l.length = n) (h : w.ownsRow B 61 5 (.slice A n cap) n (flatB l)) : Subs w A l := fun i x hx => by
  have hi : i < l.length := (List.getElem?_eq_some_iff.1 hx).1
  obtain ⟨g, c', hv, hg, hg'⟩ := h.form (by omega)
  injection hv with hv _ _
  subst hv
  obtain ⟨f0, f1, f2, f3, f4⟩ := flatB_at l i x hx
  refine ⟨g, 0, rfl, hg', ?_, ?_, ?_, ?_, ?_⟩
  · rw [Nat.zero_add, ← add0]; exact h.cells (g := g) rfl _ _ f0
  · rw [Nat.zero_add, ← add0]; exact h.cells (g := g) rfl _ _ f1
  · rw [Nat.zero_add, ← add0]; exact h.cells (g := g) rfl _ _ f2
  · rw [Nat.zero_add, ← add0]; exact h.cells (g := g) rfl _ _ f3
  · rw [Nat.zero_add, ← add0]; exact h.cells (g := g) rfl _ _ f4
/-- A packet that was read, as Put takes one. -/
theorem own5_in {B : Nat} {P : Pk} {vc vp vw vs vf : Value} {w : World} (h : Own5 B P vc vp vw vs vf w) (hf : PkF P) (hT : ∀ W, Below w.heap.size w W → Tabs W) : PkIn w.heap.size w P vc vp vw vs vf := by
  obtain ⟨A1, n1, rfl⟩ := own_form h.codes
  obtain ⟨A2, n2, rfl⟩ := own_form h.props
  obtain ⟨A3, n3, rfl⟩ := own_form h.wprops
  obtain ⟨A4, n4, rfl⟩ := own_form h.subs
  obtain ⟨A5, n5, rfl⟩ := own_form h.filters
  exact ⟨hf.fine, hT, ⟨A2, n2, rfl, fun W hW => ⟨(own_props h.props).below hW, hf.pr.1, own_cap h.props, own_capmax h.props, hf.pr.2⟩⟩, ⟨A3, n3, rfl, fun W hW => ⟨(own_props h.wprops).below hW, hf.wpr.1, own_cap h.wprops, own_capmax h.wprops, hf.wpr.2⟩⟩,
    ⟨A1, n1, rfl, fun W hW => (own_codes h.codes).below hW⟩, ⟨A4, n4, rfl, fun W hW => (own_subs rfl h.subs).below hW⟩, ⟨A5, n5, rfl, fun W hW => (own_texts h.filters).below hW⟩⟩
end Go.Proofs.YtemfcaaoobjgkaaGreatDoor
namespace Go.Proofs.YtemfcaaoobjgkaaGreatDoor
namespace TW
/-- What is read of a packet of the law has its parts. -/
theorem sm (x : Tx5) (hc : PK.putC (pk x) = 0) : PK.Sm (pk x) (PK.getPk (PK.putS (pk x))).1 := by
  refine PK.sm_read hc ?_ ?_ ?_ ?_
  · unfold pk; repeat' split
    all_goals simp [p8, p4, p12, p3]
  · unfold pk; repeat' split
    all_goals simp [p8, p4, p12, p3]
  · unfold pk; repeat' split
    all_goals simp [p8, p4, p12, p3]
  · unfold pk
    split
    · simp [p8]
    · split
      · simp [p4]
      · split
        · simp [p12]
        · refine ⟨fun _ h => ?_, fun h => ?_⟩
          · show (if 0 < qn x then idn x else 0) = 0
            exact if_neg h
          · exact absurd (show (3 : Int) = 12 from h) (by decide)
theorem bounds (x : Tx5) : 1 ≤ idn x ∧ idn x ≤ 65535 ∧ 0 ≤ qn x ∧ qn x ≤ 2 := by
  unfold idn qn
  omega
theorem f8 (i : Int) (f : ByteArray) (q : Int) (hi : I64 i) (hf : Short f) (hq : I64 q) : PkF (p8 i f q) := by
  have z : Short (ByteArray.mk #[]) := Nat.zero_le _
  have i0 : I64 0 := ⟨by decide, by decide⟩
  exact ⟨⟨⟨(by decide : -9223372036854775808 ≤ (8 : Int)), (by decide : (8 : Int) ≤ 9223372036854775807)⟩, i0, hi, z, z, ⟨(by decide : (0 : Int) ≤ 0), (by decide : (0 : Int) ≤ 255)⟩, z, i0, z, z, i0, z, z, ⟨Nat.zero_le _, fun c hc => by cases hc⟩, ⟨(by decide : 1 ≤ 100), fun c hc => by
    rcases List.mem_singleton.1 hc with rfl
    exact ⟨hf, hq, i0⟩⟩, ⟨Nat.zero_le _, fun c hc => by cases hc⟩⟩, ⟨Nat.zero_le _, fun c hc => by cases hc⟩, ⟨Nat.zero_le _, fun c hc => by cases hc⟩⟩
theorem f4 (i : Int) (hi : I64 i) : PkF (p4 i) := by
  have z : Short (ByteArray.mk #[]) := Nat.zero_le _
  have i0 : I64 0 := ⟨by decide, by decide⟩
  exact ⟨⟨⟨(by decide : -9223372036854775808 ≤ (4 : Int)), (by decide : (4 : Int) ≤ 9223372036854775807)⟩, i0, hi, z, z, ⟨(by decide : (0 : Int) ≤ 0), (by decide : (0 : Int) ≤ 255)⟩, z, i0, z, z, i0, z, z, ⟨Nat.zero_le _, fun c hc => by cases hc⟩, ⟨Nat.zero_le _, fun c hc => by cases hc⟩, ⟨Nat.zero_le _, fun c hc => by cases hc⟩⟩, ⟨Nat.zero_le _, fun c hc => by cases hc⟩, ⟨Nat.zero_le _, fun c hc => by cases hc⟩⟩
theorem f3 (q i : Int) (t b : ByteArray) (hq : I64 q) (hi : I64 i) (ht : Short t) (hb : Short b) : PkF (p3 q i t b) := by
  have z : Short (ByteArray.mk #[]) := Nat.zero_le _
  have i0 : I64 0 := ⟨by decide, by decide⟩
  exact ⟨⟨⟨(by decide : -9223372036854775808 ≤ (3 : Int)), (by decide : (3 : Int) ≤ 9223372036854775807)⟩, hq, hi, ht, hb, ⟨(by decide : (0 : Int) ≤ 0), (by decide : (0 : Int) ≤ 255)⟩, z, i0, z, z, i0, z, z, ⟨Nat.zero_le _, fun c hc => by cases hc⟩, ⟨Nat.zero_le _, fun c hc => by cases hc⟩, ⟨Nat.zero_le _, fun c hc => by cases hc⟩⟩, ⟨Nat.zero_le _, fun c hc => by cases hc⟩, ⟨Nat.zero_le _, fun c hc => by cases hc⟩⟩
theorem f12 : PkF p12 := PK.bare_f 12 false false 0 ⟨by decide, by decide⟩ ⟨by decide, by decide⟩
theorem f (x : Tx5) : PkF (pk x) := by
  obtain ⟨h1, h2, h3, h4⟩ := bounds x
  have ht := top_size x
  have hs : Short (top x) := by unfold Short; omega
  have hi : I64 (idn x) := ⟨by omega, by omega⟩
  have hq : I64 (qn x) := ⟨by omega, by omega⟩
  have i0 : I64 0 := ⟨by decide, by decide⟩
  unfold pk
  split
  · exact f8 _ _ _ hi hs hq
  · split
    · exact f4 _ hi
    · split
      · exact f12
      · refine f3 _ _ _ _ hq ?_ hs ?_
        · split
          · exact hi
          · exact i0
        · unfold Short; rw [ByteArray.size_extract]; omega
theorem rows (x : Tx5) : (pk x).codes = [] ∧ (pk x).props = [] ∧ (pk x).wprops = [] ∧ (pk x).filters = [] ∧ (pk x).subs.length ≤ 1 := by
  unfold pk; repeat' split
  all_goals first | exact ⟨rfl, rfl, rfl, rfl, Nat.le_refl _⟩ | exact ⟨rfl, rfl, rfl, rfl, Nat.zero_le _⟩
end TW
namespace PK
theorem ad_size (o : ByteArray × Int) (B : ByteArray) (c : Int) : (ad o B c).1.size ≤ o.1.size + B.size := by
  unfold ad
  split
  · omega
  · split
    · show 0 ≤ _; omega
    · show (o.1 ++ B).size ≤ _; rw [ByteArray.size_append]; omega
theorem nm_size (o : ByteArray × Int) (w n : Int) (hw : w = 1 ∨ w = 2) : (nm o w n).1.size ≤ o.1.size + 2 := by
  have h := ad_size o (strOfNums (VP.fixL w n)) (VP.fixC w n)
  have h2 : (strOfNums (VP.fixL w n)).size ≤ 2 := by
    have e : (strOfNums (VP.fixL w n)).size = (VP.fixL w n).length := by simp [strOfNums, ByteArray.size]
    rw [e]
    unfold VP.fixL
    repeat' split
    all_goals simp
    all_goals omega
  unfold nm
  omega
theorem tx_size (o : ByteArray × Int) (t : ByteArray) (_ht : t.size ≤ 1000) : (tx o t).1.size ≤ o.1.size + 2 + t.size := by
  have h := ad_size o (TX.putS t) (TX.putC t)
  have h2 : (TX.putS t).size ≤ 2 + t.size := by
    have h0 : (ByteArray.mk #[]).size ≤ 2 + t.size := Nat.zero_le _
    unfold TX.putS
    split
    · exact h0
    · unfold TX.dataS
      split
      · have e : (strOfNums [(t.size : Int) / 256, (t.size : Int) % 256]).size = 2 := rfl
        rw [ByteArray.size_append, e]
        exact Nat.le_refl _
      · exact h0
  unfold tx
  omega
theorem rf_size (o : ByteArray × Int) (c : Int) : (rf o c).1.size ≤ o.1.size := ad_size o ⟨#[]⟩ c
theorem pr_size (o : ByteArray × Int) (k : Int) : (pr o k []).1.size ≤ o.1.size + 1 := by
  have e : (PR.putS []).size = 1 := by decide +kernel
  have h := ad_size o (PR.putS []) (PR.putC [])
  unfold pr
  split
  · omega
  · have := rf_size (ad o (PR.putS []) (PR.putC [])) 130
    omega
theorem idd_size (o : ByteArray × Int) (i : Int) : (idd o i).1.size ≤ o.1.size + 2 := by
  unfold idd
  split
  · have h1 := nm_size (rf o 130) 2 i (.inr rfl)
    have h2 := rf_size o 130
    omega
  · exact nm_size o 2 i (.inr rfl)
theorem flags_size (P : Pk) : (flagsO P).1.size = 0 := by
  unfold flagsO; split <;> rfl
end PK
namespace TW
open PK
theorem body (x : Tx5) : (bodyO (pk x)).1.size ≤ 400 := by
  have ht := top_size x
  unfold bodyO
  have hf := flags_size (pk x)
  generalize flagsO (pk x) = o at *
  unfold pk
  split
  · have e : parts o (p8 (idn x) (top x) (qn x)) = sub (pr (idd o (idn x)) 8 []) ⟨top x, qn x, false, false, 0⟩ := rfl
    rw [e]
    have h1 := idd_size o (idn x)
    have h2 := pr_size (idd o (idn x)) 8
    unfold sub
    split
    · have h3 := tx_size (pr (idd o (idn x)) 8 []) (top x) (by omega)
      have h4 := nm_size (tx (pr (idd o (idn x)) 8 []) (top x)) 1 (subN ⟨top x, qn x, false, false, 0⟩) (.inl rfl)
      simp only at *
      omega
    · have h3 := tx_size (pr (idd o (idn x)) 8 []) (top x) (by omega)
      have h4 := rf_size (tx (pr (idd o (idn x)) 8 []) (top x)) 129
      simp only at *
      omega
  · split
    · have e : parts o (p4 (idn x)) = idd o (idn x) := rfl
      rw [e]
      have h1 := idd_size o (idn x)
      omega
    · split
      · have e : parts o p12 = o := rfl
        rw [e]; omega
      · generalize (if 0 < qn x then idn x else 0) = i
        have e : parts o (p3 (qn x) i (top x) (x.body.extract 0 (min x.body.size 300))) = ad (pr (if 0 < qn x then idd (tx o (top x)) i else tx o (top x)) 3 []) (x.body.extract 0 (min x.body.size 300)) 0 := rfl
        rw [e]
        have h1 := tx_size o (top x) (by omega)
        have h2 := idd_size (tx o (top x)) i
        have h3 : (if 0 < qn x then idd (tx o (top x)) i else tx o (top x)).1.size ≤ (tx o (top x)).1.size + 2 := by
          split
          · exact h2
          · omega
        have h4 := pr_size (if 0 < qn x then idd (tx o (top x)) i else tx o (top x)) 3
        have h5 := ad_size (pr (if 0 < qn x then idd (tx o (top x)) i else tx o (top x)) 3 []) (x.body.extract 0 (min x.body.size 300)) 0
        have h6 : (x.body.extract 0 (min x.body.size 300)).size ≤ 300 := by rw [ByteArray.size_extract]; omega
        omega
/-- Their bytes are few. -/
theorem size (x : Tx5) (hc : putC (pk x) = 0) : (putS (pk x)).size ≤ 500 := by
  obtain ⟨hr, hk, hb, hbk⟩ := put_read (pk x) hc
  obtain ⟨m, b, hok, hpos, hg, hm, hbm, hb', hL, hcc, he, hX⟩ := getPk_inv hr
  have h := len_mono (n := m) (m := 65536) hm (Nat.le_refl _)
  have e : (strOfNums (VP.putL ((65536 : Nat) : Int))).size = 3 := by decide +kernel
  have hb2 : (bodyO (pk x)).2 = 0 := by
    unfold putC at hc
    rw [if_neg (by omega)] at hc
    by_cases h1 : (bodyO (pk x)).2 ≠ 0
    · rw [if_pos h1] at hc; exact absurd hc h1
    · exact Classical.not_not.1 h1
  obtain ⟨g0, g1, g2, g3⟩ := beg_back (pk x) hk (fun h => can_pub h hb2)
  obtain ⟨b2, p1, p2, p3, p4, p5, p6, p7⟩ := putS_head hk hc g0
  have eb := congrArg (fun x => x.1) (p1.symm.trans hg)
  simp only at eb
  have hbo := body x
  omega
end TW
end Go.Proofs.YtemfcaaoobjgkaaGreatDoor
namespace Go.Proofs.YtemfcaaoobjgkaaGreatDoor
open Go.RowKit
attribute [local go_sem ↓] Go.wp_at_zero Go.wp_at_succ

def ack7 : Pk := { PK.zeroPk with kind := 4, id := 7 }
theorem ack_put : PK.putS ack7 = ⟨#[64, 2, 0, 7]⟩ := by kernel_rfl
theorem ack_code : PK.putC ack7 = 0 := by kernel_rfl
theorem ack_fed : ST.fed 100 ⟨#[64, 2, 0, 7]⟩ = ([⟨#[64, 2, 0, 7]⟩], 4, 0) := by kernel_rfl
theorem ack_pk : PK.getPk ⟨#[64, 2, 0, 7]⟩ = ({ PK.barePk 4 false false 0 with id := 7 }, 0) := by kernel_rfl
theorem ack_f : PkF ack7 := by
  have z : Short (ByteArray.mk #[]) := Nat.zero_le _
  have i0 : I64 0 := ⟨by decide, by decide⟩
  exact ⟨⟨⟨by decide, by decide⟩, i0, ⟨by decide, by decide⟩, z, z, ⟨(by decide : (0 : Int) ≤ 0), (by decide : (0 : Int) ≤ 255)⟩, z, i0, z, z, i0, z, z, ⟨Nat.zero_le _, fun c hc => by cases hc⟩, ⟨Nat.zero_le _, fun c hc => by cases hc⟩, ⟨Nat.zero_le _, fun c hc => by cases hc⟩⟩, ⟨Nat.zero_le _, fun c hc => by cases hc⟩, ⟨Nat.zero_le _, fun c hc => by cases hc⟩⟩
theorem own5_nil {P : Pk} (h1 : P.codes = []) (h2 : P.props = []) (h3 : P.wprops = []) (h4 : P.subs = []) (h5 : P.filters = []) (B : Nat) (w : World) : Own5 B P (.slice none 0 0) (.slice none 0 0) (.slice none 0 0) (.slice none 0 0) (.slice none 0 0) w := by
  refine ⟨?_, ?_, ?_, ?_, ?_⟩
  · rw [h1]; exact own_nil _ _ _ _
  · rw [h2]; exact own_nil _ _ _ _
  · rw [h3]; exact own_nil _ _ _ _
  · rw [h4]; exact own_nil _ _ _ _
  · rw [h5]; exact own_nil _ _ _ _
set_option maxRecDepth 100000 in
set_option maxHeartbeats 1000000 in
theorem twreads_any (w : World) (hT : ∀ W, Below w.heap.size w W → Tabs W) : Calls Tryz.prog 11 #[] w fun e w' => e = .returned (.bool true) ∧ Below w.heap.size w w' := by
  have CP : Hid (Calls Tryz.prog 13 #[.agg (pkNil ack7)] w fun e w' => e = .returned (.tuple #[.string ⟨#[64, 2, 0, 7]⟩, .int .u8 0]) ∧ Below w.heap.size w w') := Lib.hid (by
    have := pput_any ack7 _ _ _ _ _ w (own5_in (own5_nil rfl rfl rfl rfl rfl w.heap.size w) ack_f hT)
    rw [ack_put, ack_code] at this
    exact this)
  have HTb := Lib.hid hT
  clear hT
  go_enter Tryz.func11, Tryz.ntmps11
  go_wp2_with fail
  refine CP.out.mono ?_
  rintro e w1 ⟨rfl, b1⟩
  have CN := Lib.hid (new_any 100 w1)
  have B1 := Lib.hid b1
  clear b1 CP
  go_wp2_with fail
  refine CN.out.mono ?_
  rintro e w2 ⟨rfl, h2, b2⟩
  have B2 := Lib.hid (B1.out.trans (b2.mono B1.out.size))
  have CF : Hid (Calls Tryz.prog 7 #[.pointer (some ⟨w1.heap.size, 0, none⟩), .string ⟨#[64, 2, 0, 7]⟩] w2 (FeP w1.heap.size 100 ⟨#[64, 2, 0, 7]⟩ w2)) := Lib.hid (feed_any w1.heap.size 100 [] ⟨#[64, 2, 0, 7]⟩ w2 h2 (by decide) (fun W hW => HTb.out W (B2.out.trans (hW.mono B1.out.size))))
  have hs1 := B1.out.size
  clear h2 b2 CN
  go_wp2_with fail
  refine CF.out.mono ?_
  rintro e w3 hF
  obtain ⟨v, L, rfl, r3, m3, h3, k3⟩ := hF
  rw [ack_fed] at m3 h3 ⊢
  have HB := Lib.hid (B2.out.trans (k3.1.mono hs1))
  simp only [List.map_cons, List.map_nil, ack_pk] at m3
  obtain ⟨x, rfl⟩ : ∃ x, L = [x] := by
    cases L with
    | nil => simp at m3
    | cons y u => cases u with
      | nil => exact ⟨y, rfl⟩
      | cons z u => simp at m3
  simp only [List.map_cons, List.map_nil, List.cons.injEq, and_true] at m3
  obtain ⟨g, p4', hv4, hg4, hg4'⟩ := r3.row.form (by simp)
  subst hv4
  have e4 : w3.cell? ⟨g, 4, none⟩ = some (.int .i64 7) := by
    rw [← add0]
    have := r3.row.cells (g := g) rfl 4 (.int .i64 x.p.id) (by simp [Pv.cells, pkCells])
    rw [m3] at this
    exact this
  clear r3 m3 h3 k3 CF B1 B2
  go_wp2_with fail
  go_ret
  exact ⟨rfl, HB.out⟩
end Go.Proofs.YtemfcaaoobjgkaaGreatDoor
namespace Go.Proofs.YtemfcaaoobjgkaaGreatDoor
open Go.RowKit
attribute [local go_sem ↓] Go.wp_at_zero Go.wp_at_succ

theorem own_range {B : Nat} {e : TypeId} {k : Nat} {v : Value} {n : Nat} {xs : List Value} {w w' : World} (h : w.ownsRow B e k v n xs) (hk : ∀ i, B ≤ i → i < w.heap.size → w'.heap[i]? = w.heap[i]?) : w'.ownsRow B e k v n xs := by
  refine ⟨h.1, ?_⟩
  rcases h.2 with hn | ⟨g, cap, cur, hv, hb, hg, rest⟩
  · exact .inl hn
  · exact .inr ⟨g, cap, cur, hv, hb, (hk g hb (lt_heap hg)).trans hg, rest⟩
theorem PkRow.range {B : Nat} {v : Value} {L : List Pv} {w w' : World} (h : PkRow B v L w) (hk : ∀ i, B ≤ i → i < w.heap.size → w'.heap[i]? = w.heap[i]?) : PkRow B v L w' :=
  ⟨own_range h.row hk, fun x hx => ⟨own_range (h.own x hx).codes hk, own_range (h.own x hx).props hk, own_range (h.own x hx).wprops hk, own_range (h.own x hx).subs hk, own_range (h.own x hx).filters hk⟩⟩
theorem Fd.grown {r : Nat} {m : Int} {l : List UInt8} {c : Int} {w w' : World} {row : Option Nat} (h : Fd r m l c w) (hg : w.grownBy w' row) (hr : ∀ g, row = some g → ∃ cs fz, w.heap[g]? = some (.cells cs 9 fz)) : Fd r m l c w' := by
  have key : ∀ p, FdAt r m p l c w → FdAt r m p l c w' := fun p ⟨v, h1, h2, h3⟩ => by
    have hne : row ≠ some r := fun e => by
      obtain ⟨cs, fz, h⟩ := hr r e
      rw [h1] at h; simp at h
    refine ⟨v, (hg.block r (lt_heap h1) (fun e => hne e.symm)).trans h1, h2.kept hg ?_, h3⟩
    cases hv : v.ownBlock with
    | none => exact .inl rfl
    | some g =>
      refine .inr (fun e => ?_)
      obtain ⟨cs, fz, h⟩ := hr g e.symm
      obtain ⟨cs2, fz2, h'⟩ := ownF_row h2 g hv
      rw [h] at h'; simp at h'
  rcases h with h | h
  · exact .inl (key _ h)
  · exact .inr (key _ h)
/-- A packet of a row, loaded. -/
theorem wpl_load_at {ops : Array Oper} {rest : List Oper} {op : Oper} {a : Act} {w : World} {Q : Exit → Act → World → Prop} (hgd : op.guard = none) (x : Operand) (ho : op.op = .load 45 x)
    (g o : Nat) (hx : a.eval x = .pointer (some ⟨g, o, none⟩)) {p : Pk} {vc vp vw vs vf : Value} (hc : ∀ j v, (pkCells p vc vp vw vs vf).toList[j]? = some v → w.cell? ⟨g, o + j, none⟩ = some v)
    (h : wpList Tryz.prog ops Q rest (a.put op.dst (.agg (pkCells p vc vp vw vs vf))) w) : wpList Tryz.prog ops Q (op :: rest) a w :=
  wpList_load_mid hgd 45 x ho g o hx (pkCells p vc vp vw vs vf).toList _ hc Tryz.underlying45 rfl (by kernel_rfl) h
theorem flat_at : ∀ (L : List Pv) (i : Nat) (x : Pv), L[i]? = some x → ∀ j v, x.cells[j]? = some v → (L.flatMap Pv.cells)[i * 26 + j]? = some v
  | [], i, x, h => by simp at h
  | y :: L, 0, x, h => by
    simp at h; subst h
    intro j v hv
    have hj : j < y.cells.length := (List.getElem?_eq_some_iff.1 hv).1
    rw [Nat.zero_mul, Nat.zero_add, List.flatMap_cons, List.getElem?_append_left hj]
    exact hv
  | y :: L, i + 1, x, h => by
    intro j v hv
    have hy : y.cells.length = 26 := rfl
    rw [List.flatMap_cons, show (i + 1) * 26 + j = 26 + (i * 26 + j) by omega, List.getElem?_append_right (by omega), hy, Nat.add_sub_cancel_left]
    exact flat_at L i x (by simpa using h) j v hv
theorem thr_ends (s : ByteArray) (m : Int) (f : ByteArray → Int) : ∀ (u a : Nat), a ≤ s.size → 2 * (ST.thr s m f u a).1.length + a ≤ (ST.thr s m f u a).2.1 ∧ (ST.thr s m f u a).2.1 ≤ s.size ∧ ∀ b ∈ (ST.thr s m f u a).1, b.size ≤ s.size
  | 0, a, h => ⟨by simp [ST.thr], h, fun b hb => by simp [ST.thr] at hb⟩
  | u + 1, a, h => by
    rw [ST.thr]
    by_cases h1 : (ST.first (s.extract a s.size) m).2 = 0
    · obtain ⟨k, hk, hk1, hk2⟩ := ST.first_ok _ _ h1
      rw [ByteArray.size_extract] at hk2
      rw [hk]
      simp only [Int.toNat_natCast, if_true]
      by_cases hc : f (s.extract a (a + k)) = 0
      · rw [if_pos hc]
        obtain ⟨i1, i2, i3⟩ := thr_ends s m f u (a + k) (by omega)
        refine ⟨by simp only [List.length_cons]; omega, i2, fun b hb => ?_⟩
        rcases List.mem_cons.1 hb with rfl | hb
        · rw [ByteArray.size_extract]; omega
        · exact i3 b hb
      · rw [if_neg hc]
        exact ⟨by simp, h, fun b hb => by cases hb⟩
    · rw [if_neg h1]
      exact ⟨by simp, h, fun b hb => by cases hb⟩
theorem fed_ends (m : Int) (U : ByteArray) : 2 * (ST.fed m U).1.length + (ST.left m U).length ≤ U.size ∧ ∀ b ∈ (ST.fed m U).1, b.size ≤ U.size := by
  have e : ST.fed m U = ST.thr U m (fun b => (PK.getPk b).2) (U.size + 1) 0 := by unfold ST.fed; rfl
  obtain ⟨h1, h2, h3⟩ := thr_ends U m (fun b => (PK.getPk b).2) (U.size + 1) 0 (Nat.zero_le _)
  rw [← e] at h1 h2 h3
  refine ⟨?_, h3⟩
  unfold ST.left
  split
  · simp; omega
  · have h : ∀ X : ByteArray, X.data.toList.length = X.size := fun X => by rw [Array.length_toList]; rfl
    rw [h, ByteArray.size_extract]; omega
def putVs (l : List Pk) : List Value := l.map fun P => .string (PK.putS P)
theorem putVs_app (l : List Pk) (P : Pk) : putVs (l ++ [P]) = putVs l ++ [.string (PK.putS P)] := by simp [putVs]
/-- How told's loop over packets stands. -/
structure TiI (w wr w4 : World) (m : Int) (l : List UInt8) (c : Int) (done : List Pk) (out : Value) (wi : World) : Prop where
  fd : Fd w.heap.size m l c wi
  row : wi.ownsRow (w.heap.size + 1) 9 1 out done.length (putVs done)
  apart : ∀ g, out.ownBlock = some g → g < wr.heap.size ∨ w4.heap.size ≤ g
  range : ∀ i, wr.heap.size ≤ i → i < w4.heap.size → wi.heap[i]? = w4.heap[i]?
  size : w4.heap.size ≤ wi.heap.size
  below : Below w.heap.size w wi
theorem TiI.keep {w wr w4 : World} {m : Int} {l : List UInt8} {c : Int} {done : List Pk} {out : Value} {wi wi' : World} (h : TiI w wr w4 m l c done out wi) (hb : Below wi.heap.size wi wi') : TiI w wr w4 m l c done out wi' :=
  ⟨h.fd.below hb, own_below h.row hb, h.apart, fun i h1 h2 => (hb.block i (by have := h.size; omega)).trans (h.range i h1 h2), Nat.le_trans h.size hb.size, h.below.trans (hb.mono h.below.size)⟩
end Go.Proofs.YtemfcaaoobjgkaaGreatDoor
namespace Go.Proofs.YtemfcaaoobjgkaaGreatDoor
open Go.RowKit
attribute [local go_sem ↓] Go.wp_at_zero Go.wp_at_succ

/-- What told answers. -/
def ToP (w : World) (X : List Pk × Int) (e : Ending) (w' : World) : Prop :=
  ∃ v, e = .returned (.tuple #[v, .int .u8 X.2]) ∧ w'.ownsRow w.heap.size 9 1 v X.1.length (putVs X.1) ∧ Below w.heap.size w w'
/-- How told's loop over pieces stands. -/
def ToI (w : World) (m : Int) (ps : List ByteArray) (k : Nat) (out : Value) (wr : World) : Prop :=
  ∃ l done, Fd w.heap.size m l 0 wr ∧ wr.ownsRow (w.heap.size + 1) 9 1 out done.length (putVs done) ∧ Below w.heap.size w wr ∧ 2 * done.length + l.length ≤ bytesOf (ps.take k) ∧ ST.tell m ps [] = (done ++ (ST.tell m (ps.drop k) l).1, (ST.tell m (ps.drop k) l).2)
theorem tell_next {m : Int} {ps : List ByteArray} {k : Nat} {s : ByteArray} (hs : ps[k]? = some s) (l : List UInt8) : ST.tell m (ps.drop k) l = if (ST.fed m ⟨(l ++ s.data.toList).toArray⟩).2.2 ≠ 0 then (ST.pks m ⟨(l ++ s.data.toList).toArray⟩, (ST.fed m ⟨(l ++ s.data.toList).toArray⟩).2.2)
    else (ST.pks m ⟨(l ++ s.data.toList).toArray⟩ ++ (ST.tell m (ps.drop (k + 1)) (ST.left m ⟨(l ++ s.data.toList).toArray⟩)).1, (ST.tell m (ps.drop (k + 1)) (ST.left m ⟨(l ++ s.data.toList).toArray⟩)).2) := by
  have hk : k < ps.length := (List.getElem?_eq_some_iff.1 hs).1
  have e : ps.drop k = s :: ps.drop (k + 1) := by
    rw [List.drop_eq_getElem_cons hk]
    rw [List.getElem?_eq_getElem hk] at hs
    injection hs with hs
    rw [hs]
  rw [e, ST.tell]
  rfl
theorem take_snoc {α : Type} {l : List α} {k : Nat} {x : α} (h : l[k]? = some x) : l.take (k + 1) = l.take k ++ [x] := by rw [List.take_add_one, h]; rfl

theorem app2 {T e : TypeId} {i : TypeInfo} {z : Value} {size bytes : Nat} (ht : Tryz.prog.underlying T = some (.slice e)) (hi : Tryz.prog.info? e = some i) (hz : i.zero = some z) (hz1 : i.size = size) (hz2 : i.bytes = bytes) (hzs : z.cells.size = size) (hs0 : 0 < size) (hby : bytes ≤ 1000)
    (base : Nat) (v : Value) (n : Nat) (xs : List Value) (w : World) (hown : w.ownsRow base e size v n xs) (hbase : base ≤ w.heap.size) (cs : Array Value) (hcs : cs.size = size) (h1 : ∀ u ∈ cs.toList, u.oneCell' = true) (hn : n < 1000000) :
    ∃ v' w', (Builtin.append_ #[T, T] T #[v, .slice (some ⟨w.heap.size, 0, none⟩) 1 1]).run Tryz.prog (w.alloc (.cells cs e)) = .ok v' w' ∧ w'.ownsRow base e size v' (n + 1) (xs ++ cs.toList) ∧ w.grownBy w' v.ownBlock ∧ Below base w w' ∧ (v'.ownBlock = v.ownBlock ∨ v'.ownBlock = some (w.heap.size + 1)) := by
  obtain ⟨v', w', hr, hown', hg, _, hat⟩ := run_append_own_at (P := Tryz.prog) (w.alloc (.cells cs e)) base T T e i z size bytes ht hi hz hz1 hz2 hzs hs0 v n xs (hown.alloc _) ⟨w.heap.size, 0, none⟩ 1 1 cs.toList
    (by simp [hcs]) (fun j u hu => World.news_of_block (heap_alloc_new w _) j u hu) h1 (by unfold maxLen; omega) (by have := Nat.mul_le_mul (show n + 1 ≤ 1000000 by omega) hby; omega) (by simp; omega)
  refine ⟨v', w', hr, hown', ⟨hg.os, hg.tape, hg.output, by have := hg.size; simp at this; omega, fun k hk hne => (hg.block k (by simp; omega) hne).trans (Below.heap_alloc w _ k hk)⟩, ?_, by simpa using hat⟩
  exact ((Below.refl base w).alloc hbase _).grown hg (by simp; omega) fun k hk => (hown.lt k hk).1

end Go.Proofs.YtemfcaaoobjgkaaGreatDoor
namespace Go.Proofs.YtemfcaaoobjgkaaGreatDoor
open Go.RowKit
attribute [local go_sem ↓] Go.wp_at_zero Go.wp_at_succ

/-- A row of numbers. -/
def Ints (w : World) (A : Option Addr) (l : List Int) : Prop := ∀ (i : Nat) x, l[i]? = some x → ∃ g o, A = some ⟨g, o, none⟩ ∧ g < w.heap.size ∧ w.cell? ⟨g, o + i, none⟩ = some (.int .i64 x)
theorem joined_snoc (l : List ByteArray) (x : ByteArray) : ST.joined (l ++ [x]) = ST.joined l ++ x.data.toList := by simp [ST.joined]
theorem bytes_joined (l : List ByteArray) : bytesOf l = (ST.joined l).length := by
  induction l with
  | nil => rfl
  | cons x l ih =>
    have e : x.data.toList.length = x.size := by rw [Array.length_toList]; rfl
    simp only [ST.joined, List.flatMap_cons, List.length_append, e] at ih ⊢
    rw [← ih]
    simp [bytesOf]
theorem cut_join (X : ByteArray) (k : Nat) : (X.extract 0 k).data.toList ++ (X.extract k X.size).data.toList = X.data.toList := by
  have e : X.data.toList.length = X.size := by rw [Array.length_toList]; rfl
  have e2 : List.take (X.size - k) (List.drop k X.data.toList) = List.drop k X.data.toList := List.take_of_length_le (by rw [List.length_drop, e]; omega)
  simp
  rw [e2, List.take_append_drop]
/-- How the loop that cuts stands. -/
def CuI (w : World) (s : ByteArray) (k : Nat) (out : Value) (rest : ByteArray) (wr : World) : Prop :=
  ∃ l : List ByteArray, l.length = k ∧ wr.ownsRow w.heap.size 9 1 out l.length (flatT l) ∧ ST.joined l ++ rest.data.toList = s.data.toList ∧ Below w.heap.size w wr

end Go.Proofs.YtemfcaaoobjgkaaGreatDoor
namespace Go.Proofs.YtemfcaaoobjgkaaGreatDoor
open Go.RowKit

theorem t5_info : (Tryz.prog.info? 56).map (·.size) = some 5 := by kernel_rfl
def t5Nil : Array Value := #[.int .i64 0, .int .i64 0, .int .i64 0, .string ⟨#[]⟩, .string ⟨#[]⟩]
theorem t5_one (x : Tx5) : x.cells.toArray.all (·.oneCell') = true := by simp [Tx5.cells, Value.oneCell']
theorem wpl_load_t5 {ops : Array Oper} {rest : List Oper} {op : Oper} {a : Act} {w : World} {Q : Exit → Act → World → Prop} (hgd : op.guard = none) (x : Operand) (ho : op.op = .load 56 x)
    (g o : Nat) (hx : a.eval x = .pointer (some ⟨g, o, none⟩)) {y : Tx5} (hc : ∀ (j : Nat) v, y.cells[j]? = some v → w.cell? ⟨g, o + j, none⟩ = some v)
    (h : wpList Tryz.prog ops Q rest (a.put op.dst (.agg y.cells.toArray)) w) : wpList Tryz.prog ops Q (op :: rest) a w :=
  wpList_load_mid hgd 56 x ho g o hx y.cells _ hc Tryz.underlying56 rfl (by kernel_rfl) h
theorem cells_t5 {w : World} {g : Nat} {y : Tx5} (h : w.heap[g]? = some (.cells y.cells.toArray 56 (0, 0))) : ∀ (j : Nat) v, y.cells[j]? = some v → w.cell? ⟨g, 0 + j, none⟩ = some v := fun j v hv => by
  rw [Nat.zero_add, cell_heap h, ← hv]; simp
namespace TW
/-- The packets that the law's first loop has laid down. -/
def made (l : List Tx5) (k : Nat) : List Pk := PK.kept ((l.take k).map pk)
theorem take_next {l : List Tx5} {k : Nat} {x : Tx5} (h : l[k]? = some x) : l.take (k + 1) = l.take k ++ [x] := by rw [List.take_add_one, h]; rfl
theorem made_yes {l : List Tx5} {k : Nat} {x : Tx5} (h : l[k]? = some x) (hc : PK.putC (pk x) = 0) : made l (k + 1) = made l k ++ [pk x] := by
  unfold made; rw [take_next h, List.map_append, List.map_cons, List.map_nil, PK.kept_yes _ hc]
theorem made_no {l : List Tx5} {k : Nat} {x : Tx5} (h : l[k]? = some x) (hc : PK.putC (pk x) ≠ 0) : made l (k + 1) = made l k := by
  unfold made; rw [take_next h, List.map_append, List.map_cons, List.map_nil, PK.kept_no _ hc]
theorem made_len (l : List Tx5) (k : Nat) : (made l k).length ≤ k := by
  unfold made
  have h1 := PK.kept_len ((l.take k).map pk)
  have h2 : ((l.take k).map pk).length ≤ k := by simp; omega
  omega
theorem made_mem {l : List Tx5} {k : Nat} {P : Pk} (h : P ∈ made l k) : PK.putC P = 0 ∧ ∃ x, P = pk x := by
  refine ⟨PK.kept_mem h, ?_⟩
  unfold made PK.kept at h
  obtain ⟨x, _, hx⟩ := List.mem_map.1 (List.mem_filter.1 h).1
  exact ⟨x, hx.symm⟩
theorem made_put {l : List Tx5} {k : Nat} {P : Pk} (h : P ∈ made l k) : PK.putC P = 0 ∧ (PK.putS P).size ≤ 500 := by
  obtain ⟨hc, x, rfl⟩ := made_mem h
  exact ⟨hc, size x hc⟩
theorem made_size (l : List Tx5) (k : Nat) : (ST.cat ((made l k).map PK.putS)).size ≤ k * 500 := by
  have h1 := ST.cat_size ((made l k).map PK.putS) 500 (fun x hx => by
    obtain ⟨P, hP, rfl⟩ := List.mem_map.1 hx
    exact (made_put hP).2)
  rw [List.length_map] at h1
  exact Nat.le_trans h1 (Nat.mul_le_mul_right 500 (made_len l k))
theorem made_fed (l : List Tx5) (k : Nat) : ST.fed 65536 (ST.cat ((made l k).map PK.putS)) = ((made l k).map PK.putS, (ST.cat ((made l k).map PK.putS)).size, 0) :=
  ST.fed_row 65536 (made l k) (fun P hP => ⟨(made_put hP).1, by have := (made_put hP).2; omega⟩)
end TW
set_option maxRecDepth 100000 in
/-- One packet more in a row of packets. -/
theorem pkrow_app {B : Nat} {out : Value} {L : List Pv} {W : World} (h : PkRow B out L W) (hB : B ≤ W.heap.size) (y : Pv) (hy : Own5 B y.p y.vc y.vp y.vw y.vs y.vf W) (hn : L.length < 1000000) :
    ∃ v' w', (Builtin.append_ #[29, 29] 29 #[out, .slice (some ⟨W.heap.size, 0, none⟩) 1 1]).run Tryz.prog (W.alloc (.cells (pkCells y.p y.vc y.vp y.vw y.vs y.vf) 45)) = .ok v' w' ∧ PkRow B v' (L ++ [y]) w' ∧ Below B W w' := by
  obtain ⟨z, nb, hinf, hzs, hnb⟩ := pkInfo
  obtain ⟨i0, hi0, hz0, hz1, hz2⟩ := info_parts hinf
  have W1 := pk_one y.p hy
  obtain ⟨v2, w2, hr2, hown2, hg2, hb2⟩ := app1 Tryz.underlying29 hi0 hz0 hz1 hz2 hzs (by decide) hnb B out L.length _ W h.row hB (pkCells y.p y.vc y.vp y.vw y.vs y.vf) rfl (fun u hu => by rw [Array.all_eq_true'] at W1; exact W1 u (by simpa using hu)) hn
  have hrr : ∀ g, out.ownBlock = some g → ∃ c fz, W.heap[g]? = some (.cells c 45 fz) := own_row h.row
  refine ⟨v2, w2, hr2, ⟨by simpa [Pv.cells] using hown2, fun x hx => ?_⟩, hb2⟩
  rcases List.mem_append.1 hx with hx | hx
  · exact own5_kept (h.own x hx) hg2 hrr
  · simp at hx; subst hx; exact own5_kept hy hg2 hrr
set_option maxRecDepth 100000 in
/-- Two rows of packets put together. -/
theorem pkrow_cat {B C : Nat} {out v : Value} {L L2 : List Pv} {W : World} (h : PkRow B out L W) (hB : B ≤ W.heap.size) (h2 : PkRow C v L2 W) (hC : B ≤ C) (hn : L.length + L2.length < 100000) :
    ∃ v' w', (Builtin.append_ #[29, 29] 29 #[out, v]).run Tryz.prog W = .ok v' w' ∧ PkRow B v' (L ++ L2) w' ∧ W.grownBy w' out.ownBlock ∧ ∀ g, out.ownBlock = some g → ∃ c fz, W.heap[g]? = some (.cells c 45 fz) := by
  obtain ⟨z, nb, hinf, hzs, hnb⟩ := pkInfo
  obtain ⟨i0, hi0, hz0, hz1, hz2⟩ := info_parts hinf
  have hrr : ∀ g, out.ownBlock = some g → ∃ c fz, W.heap[g]? = some (.cells c 45 fz) := own_row h.row
  by_cases hv : v = .slice none 0 0
  · subst hv
    have hL : L2 = [] := by
      rcases h2.row.2 with ⟨_, hn0⟩ | ⟨g, c, u, hv, _⟩
      · exact List.length_eq_zero_iff.1 hn0
      · injection hv with hv _ _; cases hv
    subst hL
    have hr := run_append_owned_none (P := Tryz.prog) (w := W) B 29 29 45 i0 26 Tryz.underlying29 hi0 out L.length _ h.row
    exact ⟨out, W, hr, by simpa using h, ⟨rfl, rfl, rfl, Nat.le_refl _, fun _ _ _ => rfl⟩, hrr⟩
  · obtain ⟨g, c, hvv⟩ : ∃ g c, v = .slice (some ⟨g, 0, none⟩) L2.length c := by
      rcases h2.row.2 with ⟨hv', _⟩ | ⟨g, c, u, hv', _⟩
      · exact absurd hv' hv
      · exact ⟨g, c, hv'⟩
    subst hvv
    have hone : ∀ u ∈ L2.flatMap Pv.cells, u.oneCell' = true := fun u hu => by
      obtain ⟨x, hx, hu⟩ := List.mem_flatMap.1 hu
      have W1 := pk_one x.p (h2.own x hx)
      rw [Array.all_eq_true'] at W1
      exact W1 u (by simpa [Pv.cells] using hu)
    obtain ⟨v', w', hr, hown, hg, _, _⟩ := run_append_own_at (P := Tryz.prog) W B 29 29 45 i0 z 26 nb Tryz.underlying29 hi0 hz0 hz1 hz2 hzs (by decide) out L.length _ h.row ⟨g, 0, none⟩ L2.length c (L2.flatMap Pv.cells)
      h2.row.1 (fun j u hu => h2.row.cells (g := g) rfl j u hu) hone (by unfold maxLen; omega) (by have := Nat.mul_le_mul (show L.length + L2.length ≤ 100000 by omega) hnb; omega) hB
    refine ⟨v', w', hr, ⟨by simpa using hown, fun x hx => ?_⟩, hg, hrr⟩
    rcases List.mem_append.1 hx with hx | hx
    · exact own5_kept (h.own x hx) hg hrr
    · exact own5_kept (own5_base (h2.own x hx) hC) hg hrr
theorem Fd.grownP {r : Nat} {m : Int} {l : List UInt8} {c : Int} {w w' : World} {row : Option Nat} (h : Fd r m l c w) (hg : w.grownBy w' row) (hr : ∀ g, row = some g → ∃ cs fz, w.heap[g]? = some (.cells cs 45 fz)) : Fd r m l c w' := by
  have key : ∀ p, FdAt r m p l c w → FdAt r m p l c w' := fun p ⟨v, h1, h2, h3⟩ => by
    have hne : row ≠ some r := fun e => by
      obtain ⟨cs, fz, h⟩ := hr r e
      rw [h1] at h; simp at h
    refine ⟨v, (hg.block r (lt_heap h1) (fun e => hne e.symm)).trans h1, h2.kept hg ?_, h3⟩
    cases hv : v.ownBlock with
    | none => exact .inl rfl
    | some g =>
      refine .inr (fun e => ?_)
      obtain ⟨cs, fz, h⟩ := hr g e.symm
      obtain ⟨cs2, fz2, h'⟩ := ownF_row h2 g hv
      rw [h] at h'; simp at h'
  rcases h with h | h
  · exact .inl (key _ h)
  · exact .inr (key _ h)
/-- How the first loop stands. -/
structure TwI (w : World) (l : List Tx5) (k : Nat) (S : ByteArray) (out : Value) (L : List Pv) (wr : World) : Prop where
  str : S = ST.cat ((TW.made l k).map PK.putS)
  map : L.map Pv.p = TW.made l k
  row : PkRow w.heap.size out L wr
  below : Below w.heap.size w wr
theorem TwI.keep {w : World} {l : List Tx5} {k : Nat} {S : ByteArray} {out : Value} {L : List Pv} {wr wr' : World} (h : TwI w l k S out L wr) (hb : Below wr.heap.size wr wr') : TwI w l k S out L wr' :=
  ⟨h.str, h.map, h.row.below hb, h.below.trans (hb.mono h.below.size)⟩
theorem TwI.len {w : World} {l : List Tx5} {k : Nat} {S : ByteArray} {out : Value} {L : List Pv} {wr : World} (h : TwI w l k S out L wr) : L.length ≤ k ∧ S.size ≤ k * 500 := by
  have h1 := congrArg List.length h.map
  rw [List.length_map] at h1
  exact ⟨by rw [h1]; exact TW.made_len l k, by rw [h.str]; exact TW.made_size l k⟩
/-- How the second loop stands. -/
structure Tw2 (w0 : World) (c B : Nat) (cs : Array Value) (All : List UInt8) (R : ByteArray) (out : Value) (done : List ByteArray) (lf : List UInt8) (L : List Pv) (wr : World) : Prop where
  way : ST.Way 65536 All done lf R.data.toList
  fd : Fd w0.heap.size 65536 lf 0 wr
  row : PkRow B out L wr
  map : L.map Pv.p = done.map (fun b => (PK.getPk b).1)
  cuts : wr.heap[c]? = some (.cells cs 3 (0, 0))
  below : Below w0.heap.size w0 wr
  lt : w0.heap.size < B ∧ c ≠ w0.heap.size
  size : B ≤ wr.heap.size
theorem Tw2.feed {w0 : World} {c B : Nat} {cs : Array Value} {All : List UInt8} {R : ByteArray} {out : Value} {done : List ByteArray} {lf : List UInt8} {L : List Pv} {wr : World} (h : Tw2 w0 c B cs All R out done lf L wr)
    (hA : (ST.fed 65536 (ST.bs All)).1.length ≤ 1000) {X R' : ByteArray} (hR : R.data.toList = X.data.toList ++ R'.data.toList) {e : Ending} {w' : World} (hF : FeP w0.heap.size 65536 ⟨(lf ++ X.data.toList).toArray⟩ wr e w') :
    ∃ v L2 done' lf' v2 w2, e = .returned (.tuple #[v, .int .u8 0]) ∧ (∃ A2 c2, v = .slice A2 L2 c2) ∧ (Builtin.append_ #[29, 29] 29 #[out, v]).run Tryz.prog w' = .ok v2 w2 ∧ ∃ L', Tw2 w0 c B cs All R' v2 done' lf' L' w2 := by
  obtain ⟨hc, hw⟩ := h.way.step hR
  obtain ⟨v, L2, rfl, hpr, hmap, hfd, hk⟩ := hF
  rw [show (⟨(lf ++ X.data.toList).toArray⟩ : ByteArray) = ST.bs (lf ++ X.data.toList) from rfl] at hmap hfd ⊢
  rw [hc] at hfd ⊢
  have hrow := h.row.kp hk h.lt.1
  have hz := hk.1.size
  have hl1 := congrArg List.length h.map
  have hl2 := congrArg List.length hmap
  simp only [List.length_map] at hl1 hl2
  have hl3 := congrArg List.length hw.fed
  simp only [List.length_append] at hl3
  have hBz : B ≤ w'.heap.size := Nat.le_trans h.size hz
  obtain ⟨v2, w2, hr, hrow2, hg, hrr⟩ := pkrow_cat hrow hBz hpr h.size (by omega)
  refine ⟨v, L2.length, done ++ (ST.fed 65536 (ST.bs (lf ++ X.data.toList))).1, ST.left 65536 (ST.bs (lf ++ X.data.toList)), v2, w2, rfl, own_form hpr.row, hr, L ++ L2, ?_⟩
  have hcu := hk.block h.cuts h.lt.2 (by decide)
  refine ⟨hw, hfd.grownP hg hrr, hrow2, by rw [List.map_append, h.map, hmap, List.map_append], ?_, ?_, h.lt, Nat.le_trans hBz hg.size⟩
  · refine (hg.block c (lt_heap hcu) (fun e => ?_)).trans hcu
    obtain ⟨c2, fz, h2⟩ := hrr c e.symm
    rw [hcu] at h2
    simp at h2
  · exact (h.below.trans hk.1).grown hg (Nat.le_trans h.below.size (by omega)) (fun k hk' => by have := (hrow.row.lt k hk').1; have := h.lt.1; omega)
theorem add_any (b o j : Nat) : (⟨b, o, none⟩ : Addr).add j = ⟨b, o + j, none⟩ := by unfold Addr.add; split <;> simp_all
/-- The row of cuts, with a zero behind. -/
def cutsV (xs : List Int) : List Value := (xs.map (Value.int .i64)) ++ [.int .i64 0]
set_option maxRecDepth 100000 in
theorem app_cuts (w : World) (A : Option Addr) (n : Nat) (xs : List Int) (hn : xs.length = n) (hs : n ≤ 200) (h : Ints w A xs) :
    ∃ v c2 cs g, v = .slice (some ⟨g, 0, none⟩) (n + 1) c2 ∧ ∃ w', (Builtin.append_ #[46, 46] 46 #[.slice A n n, .slice (some ⟨w.heap.size, 0, none⟩) 1 1]).run Tryz.prog (w.alloc (.cells #[.int .i64 0] 3)) = .ok v w' ∧
      w'.heap[g]? = some (.cells cs 3 (0, 0)) ∧ w.heap.size ≤ g ∧ (∀ (j : Nat) u, (cutsV xs)[j]? = some u → cs[j]? = some u) ∧ Below w.heap.size w w' := by
  subst hn
  have hal : Below w.heap.size w (w.alloc (.cells #[.int .i64 0] 3)) := (Below.refl _ _).alloc (Nat.le_refl _) _
  have hz : (w.alloc (.cells #[.int .i64 0] 3)).heap.size = w.heap.size + 1 := by simp
  have hnw : ∀ (j : Nat) u, [Value.int .i64 0][j]? = some u → (w.alloc (.cells #[.int .i64 0] 3)).cell? ((⟨w.heap.size, 0, none⟩ : Addr).add j) = some u := fun j u hu => World.news_of_block (heap_alloc_new w _) j u (by simpa using hu)
  obtain ⟨i0, hi0, hz0, hz1, hz2⟩ := info_parts (e := 3) (z := .int .i64 0) (n := 1) (b := 8) (by kernel_rfl)
  have fin : ∀ (v : Value) (w' : World) (B : Nat), w.heap.size ≤ B → w'.ownsRow B 3 1 v (xs.length + 1) (cutsV xs) → (∃ c2 cs g, v = .slice (some ⟨g, 0, none⟩) (xs.length + 1) c2 ∧ w'.heap[g]? = some (.cells cs 3 (0, 0)) ∧ w.heap.size ≤ g ∧ (∀ (j : Nat) u, (cutsV xs)[j]? = some u → cs[j]? = some u)) := fun v w' B hB ho => by
    rcases ho.2 with ⟨_, h0⟩ | ⟨g, cap, cur, hv, hbg, hg, _, _, _, ht⟩
    · omega
    · refine ⟨cap, cur, g, hv, hg, by omega, fun j u hj => ?_⟩
      have hlen : (cutsV xs).length = xs.length + 1 := by simp [cutsV]
      have hjl : j < xs.length + 1 := by have := (List.getElem?_eq_some_iff.1 hj).1; omega
      rw [← ht, List.getElem?_take, if_pos (by omega)] at hj
      simpa using hj
  cases A with
  | none =>
    have hx0 : xs = [] := by
      cases xs with
      | nil => rfl
      | cons x t =>
        obtain ⟨g, o, hA, _⟩ := h 0 x rfl
        cases hA
    subst hx0
    obtain ⟨v', w', hr, hown, hg, _, _⟩ := run_append_own_at (P := Tryz.prog) (w.alloc (.cells #[.int .i64 0] 3)) w.heap.size 46 46 3 i0 (.int .i64 0) 1 8 Tryz.underlying46 hi0 hz0 hz1 hz2 rfl (by decide) (.slice none 0 0) 0 [] (own_nil _ _ _ _) ⟨w.heap.size, 0, none⟩ 1 1 [.int .i64 0] rfl hnw (by simp [Value.oneCell']) (by unfold maxLen; omega) (by omega) (by omega)
    obtain ⟨c2, cs, g, e1, e2, e3, e4⟩ := fin v' w' w.heap.size (Nat.le_refl _) hown
    exact ⟨v', c2, cs, g, e1, w', hr, e2, e3, e4, hal.grown hg (by omega) (fun k hk => by cases hk)⟩
  | some a =>
    have holds : ∀ (j : Nat) u, (xs.map (Value.int .i64))[j]? = some u → (w.alloc (.cells #[.int .i64 0] 3)).cell? (a.add j) = some u := fun j u hu => by
      rw [List.getElem?_map] at hu
      cases hx : xs[j]? with
      | none => rw [hx] at hu; cases hu
      | some x =>
        rw [hx] at hu
        obtain ⟨g, o, hA, hg, hc⟩ := h j x hx
        injection hA with hA
        subst hA
        injection hu with hu
        subst hu
        rw [add_any]
        exact (hal.cell (p := ⟨g, o + j, none⟩) hg).trans hc
    obtain ⟨v', w', hr, hown, hg⟩ := run_append_arg_grows (P := Tryz.prog) (w.alloc (.cells #[.int .i64 0] 3)) 46 46 3 i0 (.int .i64 0) 1 8 Tryz.underlying46 hi0 hz0 hz1 hz2 rfl (by decide) a xs.length xs.length (xs.map (Value.int .i64)) (by simp) holds ⟨w.heap.size, 0, none⟩ 1 1 [.int .i64 0] rfl hnw (by omega) (by unfold maxLen; omega) (by omega)
    obtain ⟨c2, cs, g, e1, e2, e3, e4⟩ := fin v' w' _ (by omega) hown
    exact ⟨v', c2, cs, g, e1, w', hr, e2, e3, e4, hal.grown hg (by omega) (fun k hk => by cases hk)⟩
theorem pkrow_at {B n cap : Nat} {A : Option Addr} {L : List Pv} {w : World} (h : PkRow B (.slice A n cap) L w) (hn : n = L.length) {i : Nat} {x : Pv} (hx : L[i]? = some x) : ∃ g, A = some ⟨g, 0, none⟩ ∧ g < w.heap.size ∧ ∀ (j : Nat) v, (pkCells x.p x.vc x.vp x.vw x.vs x.vf).toList[j]? = some v → w.cell? ⟨g, i * 26 + j, none⟩ = some v := by
  subst hn
  have hi := (List.getElem?_eq_some_iff.1 hx).1
  obtain ⟨g, c', hv, hg, hg'⟩ := h.row.form (by omega)
  injection hv with hv _ _
  subst hv
  refine ⟨g, rfl, hg', fun j v hv => ?_⟩
  rw [← add0]
  exact h.row.cells (g := g) rfl (i * 26 + j) v (flat_at L i x hx j v hv)
theorem put_none (a : Act) (v : Value) : a.put none v = a := rfl
end Go.Proofs.YtemfcaaoobjgkaaGreatDoor
