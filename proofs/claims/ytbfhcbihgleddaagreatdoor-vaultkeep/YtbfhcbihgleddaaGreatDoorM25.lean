/-
  Texts of the vault, in build order: VFind, VPack.
-/
import Derived.Test.YtbfhcbihgleddaaGreatDoorM24
import Derived.Deep.AppendLies
/-
  The vault's find: a snapshot that lies whole on a disk.
-/
namespace Go.Proofs.YtbfhcbihgleddaaGreatDoor
open Go.RowKit

theorem row_has {t sz base n : Nat} {w : World} {v : Value} {xs : List Value} (h : w.ownsRow base t sz v n xs) (g : Nat) (hg : v.ownBlock = some g) : ∃ cur, w.heap[g]? = some (.cells cur t (0, 0)) := by
  rcases h.2 with ⟨rfl, _⟩ | ⟨g', cap, cur, rfl, h2, h3, _⟩
  · cases hg
  · obtain rfl : g' = g := Option.some.inj hg
    exact ⟨cur, h3⟩
theorem row_back {t sz base n : Nat} {w w' : World} {v : Value} {xs : List Value} (h : w.ownsRow base t sz v n xs) (hb : ∀ g, v.ownBlock = some g → w'.heap[g]? = w.heap[g]?) : w'.ownsRow base t sz v n xs := by
  refine ⟨h.1, ?_⟩
  rcases h.2 with h | ⟨g, cap, cur, rfl, h2, h3, h4⟩
  · exact .inl h
  · exact .inr ⟨g, cap, cur, rfl, h2, by rw [hb g rfl]; exact h3, h4⟩
theorem row_other {t sz base n t2 sz2 base2 n2 : Nat} {w w' : World} {v v2 : Value} {xs ys : List Value} (ht : t ≠ t2) (h : w.ownsRow base t sz v n xs) (h2 : w.ownsRow base2 t2 sz2 v2 n2 ys) (hg : w.grownBy w' v2.ownBlock) : w'.ownsRow base t sz v n xs :=
  row_back h fun g e => by
    obtain ⟨cur, hc⟩ := row_has h g e
    refine hg.block g (Array.getElem?_eq_some_iff.1 hc).1 fun e2 => ?_
    obtain ⟨cur2, hc2⟩ := row_has h2 g e2.symm
    rw [hc] at hc2
    simp at hc2
    exact ht hc2.2
theorem row_setBox {t sz base n b k : Nat} {w : World} {v : Value} {xs : List Value} {ca : Array Value} (h : w.ownsRow base t sz v n xs) (hb : BoxT b w k ca) (ht : b ≠ t) (j : Nat) (u : Value) : (w.setCell ⟨k, j, none⟩ u).ownsRow base t sz v n xs :=
  row_back h fun g e => by
    obtain ⟨cur, hc⟩ := row_has h g e
    refine Below.heap_setCell w ⟨k, j, none⟩ u g ?_
    show g ≠ k
    rintro rfl
    unfold BoxT at hb
    rw [hb] at hc
    simp at hc
    exact ht hc.2
theorem BoxT.rowed {t t2 sz2 base2 n2 k : Nat} {w w' : World} {v2 : Value} {ys : List Value} {ca : Array Value} (hb : BoxT t w k ca) (ht : t ≠ t2) (h2 : w.ownsRow base2 t2 sz2 v2 n2 ys) (hg : w.grownBy w' v2.ownBlock) : BoxT t w' k ca := by
  unfold BoxT at *
  rw [hg.block k (Array.getElem?_eq_some_iff.1 hb).1 fun e2 => ?_]
  · exact hb
  · obtain ⟨cur2, hc2⟩ := row_has h2 k e2.symm
    rw [hb] at hc2
    simp at hc2
    exact ht hc2.2
/-- A chunk as it lies. -/
structure Ck where
  l : List Nat
  a : Option Addr
  c : Nat
def Ck.v (x : Ck) : Value := .slice x.a x.l.length x.c
def Ck.cs (x : Ck) : List Value := [x.v]
def Ck.ok (base : Nat) (w : World) (x : Ck) : Prop := Own base w x.v x.l
/-- A snapshot. -/
structure Sp where
  n : Nat
  ep : Nat
  parts : List ByteArray
  chunks : List (List Nat)
/-- A snapshot as it lies. -/
structure SpV where
  n : Nat
  ep : Nat
  parts : List ByteArray
  ap : Option Addr
  cp : Nat
  ck : List Ck
  ac : Option Addr
  cc : Nat
def SpV.s (x : SpV) : Sp := ⟨x.n, x.ep, x.parts, x.ck.map Ck.l⟩
def SpV.vp (x : SpV) : Value := .slice x.ap x.parts.length x.cp
def SpV.vc (x : SpV) : Value := .slice x.ac x.ck.length x.cc
def SpV.cs (x : SpV) : List Value := [.int .u64 x.n, .int .u64 x.ep, x.vp, x.vc]
structure SpV.ok (base : Nat) (w : World) (x : SpV) : Prop where
  p : OwnS base w x.vp x.parts
  c : OwnL 22 1 Ck.cs base w x.vc x.ck
  ks : ∀ c ∈ x.ck, c.ok base w
def upOk (l : List Nat) : Bool := match unpk l with | some (_ :: _) => true | _ => false
/-- The chunks of a manifest's files, if each is whole and has its own name. -/
def chk1 (n i : Nat) (f : ByteArray) (rf : Option (List Nat)) (nxt : Option (List (List Nat))) : Option (List (List Nat)) := match rf with
  | some l => if f = partN n i (crc l) ∧ upOk l = true then nxt.map (l :: ·) else none
  | none => none
def chks (p : Pd) (n : Nat) : Nat → List ByteArray → Option (List (List Nat))
  | _, [] => some []
  | i, f :: fs => chk1 n i f (rdF p (nm f)) (chks p n (i + 1) fs)
def findS (p : Pd) (s : List UInt8) : Option Sp := match rdM p s with
  | some m => (chks p m.n 0 m.ss).map fun cs => ⟨m.n, m.ep, m.ss, cs⟩
  | none => none
def FPost (w : World) (r : Option Sp) (e : Ending) (w' : World) : Prop :=
  (∃ x : SpV, r = some x.s ∧ e = .returned (.tuple #[.agg #[.int .u64 x.n, .int .u64 x.ep, x.vp, x.vc], .bool true]) ∧ x.ok w.heap.size w' ∧ Below w.heap.size w w') ∨ (r = none ∧ e = .returned (.tuple #[.agg #[.int .u64 0, .int .u64 0, .slice none 0 0, .slice none 0 0], .bool false]) ∧ Below w.heap.size w w')
/-- In the midst of find: the result's box, the manifest's, the snapshot's, and what was found. -/
structure FI (w wr : World) (kM kS : Nat) (m : Man) (af : Option Addr) (cf : Nat) (v3 : Value) (acc : List Ck) : Prop where
  bel : Below w.heap.size w wr
  bR : BoxT 84 wr w.heap.size #[.int .u64 0, .int .u64 0, .slice none 0 0, .slice none 0 0]
  bM : BoxT 110 wr kM #[.int .u64 m.n, .int .u64 m.ep, .slice af m.ss.length cf]
  bS : BoxT 84 wr kS #[.int .u64 m.n, .int .u64 m.ep, .slice af m.ss.length cf, v3]
  files : OwnS w.heap.size wr (.slice af m.ss.length cf) m.ss
  own : OwnL 22 1 Ck.cs w.heap.size wr v3 acc
  oks : ∀ c ∈ acc, c.ok w.heap.size wr
  lS : w.heap.size < kS
theorem Ck.ok.below {base : Nat} {w w' : World} {x : Ck} (h : x.ok base w) (hb : Below w.heap.size w w') : x.ok base w' := Own.below h hb (Nat.le_refl _)
theorem FI.below {w wr w' : World} {kM kS : Nat} {m : Man} {af : Option Addr} {cf : Nat} {v3 : Value} {acc : List Ck} (h : FI w wr kM kS m af cf v3 acc) (hb : Below wr.heap.size wr w') : FI w w' kM kS m af cf v3 acc :=
  have hk := Kept.of_below (base := 0) hb
  ⟨h.bel.trans (hb.mono h.bel.size), h.bR.kept hk (by decide), h.bM.kept hk (by decide), h.bS.kept hk (by decide), h.files.below hb, h.own.below hb, fun c hc => (h.oks c hc).below hb, h.lS⟩
theorem Tryz.info22 : (Tryz.prog.info? 22).map (fun i => (i.zero, i.size, i.bytes)) = some (some (.slice none 0 0), 1, 24) := by kernel_rfl
/-- One more chunk. -/
theorem FI.add {w wr w' : World} {kM kS : Nat} {m : Man} {af : Option Addr} {cf : Nat} {v3 v4 : Value} {acc : List Ck} {c : Ck} (h : FI w wr kM kS m af cf v3 acc) (hc : c.ok w.heap.size wr) (ho : OwnL 22 1 Ck.cs w.heap.size w' v4 (acc ++ [c])) (hg : wr.grownBy w' v3.ownBlock) : FI w (w'.setCell ⟨kS, 3, none⟩ v4) kM kS m af cf v4 (acc ++ [c]) := by
  have hb := OwnL.bel h.bel h.own hg h.bel.size
  have bS := h.bS.rowed (by decide) h.own hg
  have bM := h.bM.rowed (by decide) h.own hg
  have bR := h.bR.rowed (by decide) h.own hg
  have hlS := h.lS
  have hne : kM ≠ kS := by
    rintro rfl
    have h1 := h.bM; have h2 := h.bS
    unfold BoxT at h1 h2
    rw [h1] at h2; simp at h2
  refine ⟨hb.setCell (Nat.le_of_lt hlS) _, bR.other _ _ (by omega), bM.other _ _ hne, bS.set 3 v4, ?_, row_setBox ho bS (by decide) _ _, ?_, hlS⟩
  · exact row_setBox (row_other (by decide) h.files h.own hg) bS (by decide) _ _
  · intro d hd
    refine row_setBox ?_ bS (by decide) _ _
    rcases List.mem_append.1 hd with hd | hd
    · exact row_other (by decide) (h.oks d hd) h.own hg
    · rcases List.mem_singleton.1 hd with rfl
      exact row_other (by decide) hc h.own hg
theorem fin84 {w : World} {k : Nat} {a0 a1 a2 a3 : Value} (hA : BoxT 84 w k #[a0, a1, a2, a3]) (v0 v1 v2 v3 : Value) (W : World)
    (hW : W = (((w.setCell ⟨k, 0, none⟩ v0).setCell ⟨k, 1, none⟩ v1).setCell ⟨k, 2, none⟩ v2).setCell ⟨k, 3, none⟩ v3) :
    Below k w W ∧ BoxT 84 W k #[v0, v1, v2, v3] ∧ (∀ base t sz v n xs, 84 ≠ t → w.ownsRow base t sz v n xs → W.ownsRow base t sz v n xs) := by
  subst hW
  have h0 : BoxT 84 _ _ #[v0, a1, a2, a3] := hA.set 0 v0
  have h1 : BoxT 84 _ _ #[v0, v1, a2, a3] := h0.set 1 v1
  have h2 : BoxT 84 _ _ #[v0, v1, v2, a3] := h1.set 2 v2
  refine ⟨?_, h2.set 3 v3, fun base t sz v n xs ht h => ?_⟩
  · exact ((((Below.refl k w).setCell (Nat.le_refl _) _).setCell (Nat.le_refl _) _).setCell (Nat.le_refl _) _).setCell (Nat.le_refl _) _
  · exact row_setBox (row_setBox (row_setBox (row_setBox h hA ht _ _) h0 ht _ _) h1 ht _ _) h2 ht _ _
theorem num_le (k : Nat) (s : List Nat × Bool) : (num k s).2.1.length ≤ s.1.length := by
  rcases num_left k s with h | ⟨_, h⟩
  · omega
  · rw [h]; exact Nat.le_refl _
theorem takeS_le (k : Nat) (s : List Nat × Bool) : (takeS k s).1.length ≤ s.1.length ∧ (takeS k s).2.1.length ≤ s.1.length := by
  unfold takeS
  split
  · simp; omega
  · simp
theorem rName_le (s : List Nat × Bool) : (rName s).1.size ≤ s.1.length ∧ (rName s).2.1.length ≤ s.1.length := by
  unfold rName
  have h1 := num_le 1 s
  have key : ∀ t : List Nat × Bool, t.1.length ≤ s.1.length → (strOf (takeS (num 1 s).1 t).1).size ≤ s.1.length ∧ (takeS (num 1 s).1 t).2.1.length ≤ s.1.length := fun t ht => by
    have h2 := takeS_le (num 1 s).1 t
    rw [strOf_size]
    exact ⟨Nat.le_trans h2.1 ht, Nat.le_trans h2.2 ht⟩
  by_cases h32 : 32 < (num 1 s).1
  · rw [if_pos h32]; exact key _ h1
  · rw [if_neg h32]; exact key _ h1
theorem rListS_le (n : Nat) : ∀ (s : List Nat × Bool), ∀ f ∈ (rListS n s).1, f.size ≤ s.1.length := by
  induction n with
  | zero => intro s f hf; simp [rListS] at hf
  | succ n ih =>
    intro s f hf
    unfold rListS at hf
    split at hf
    · cases hf
    · rcases List.mem_cons.1 hf with rfl | hf
      · exact (rName_le s).1
      · exact Nat.le_trans (ih _ f hf) (rName_le s).2
theorem rMan_le {l : List Nat} : ∀ f ∈ (rMan (l, false)).1.ss, f.size ≤ l.length := by
  intro f hf
  have h1 := rListS_le _ _ f hf
  have h2 := num_le 2 (num 8 (num 8 (l, false)).2).2
  have h3 := num_le 8 (num 8 (l, false)).2
  have h4 := num_le 8 (l, false)
  simp only at h4
  omega
theorem rMan_len {l : List Nat} (hb : Byts l) : (rMan (l, false)).1.ss.length ≤ 65535 := by
  have h1 := rListS_len (num 2 (num 8 (num 8 (l, false)).2).2).1 (num 2 (num 8 (num 8 (l, false)).2).2).2
  have h2 := num_lt (k := 2) (s := (num 8 (num 8 (l, false)).2).2) (num_byts (num_byts hb))
  have : (rMan (l, false)).1.ss.length ≤ (num 2 (num 8 (num 8 (l, false)).2).2).1 := h1
  omega
theorem rdM_some {p : Pd} {n : Nat} (ho : Ok p n) {s : List UInt8} {m : Man} (h : rdM p s = some m) : m.n < 18446744073709551616 ∧ m.ep < 18446744073709551616 ∧ m.n ≠ 0 ∧ s = nm (wholeN m.n) ∧ m.ss.length ≤ 65535 ∧ ∀ f ∈ m.ss, f.size ≤ 1048576 := by
  unfold rdM at h
  split at h
  · cases hr : rdF p s with
    | none => rw [hr] at h; cases h
    | some l =>
      rw [hr] at h
      dsimp only at h
      have hb := rdF_byts ho hr
      split at h
      case isTrue hh =>
        cases h
        have := man_lt hb.1
        exact ⟨this.1, this.2, hh.2.1, hh.2.2, rMan_len hb.1, fun f hf => Nat.le_trans (rMan_le f hf) hb.2⟩
      case isFalse => cases h
  · cases h

set_option maxHeartbeats 2000000 in
set_option maxRecDepth 100000 in
theorem vfind_any {w0 w : World} {k b n : Nat} {p : Pd} (h : St w0 w k b n p) (hg : Glob w) (s : ByteArray) (hs : s.size ≤ maxLen) (r : Option Sp) (hr : findS p (nm s) = r) :
    Calls Tryz.prog 32 #[.pointer (some ⟨k, 0, none⟩), .string s] w (FPost w r) := by
  have hb0 : Below w.heap.size w (w.alloc (.cells #[.int .u64 0, .int .u64 0, .slice none 0 0, .slice none 0 0] 84)) := (Below.refl _ _).alloc (Nat.le_refl _) _
  have bR0 := BoxT.new 84 w #[.int .u64 0, .int .u64 0, .slice none 0 0, .slice none 0 0]
  have HS := hide h
  have HG := hide hg
  obtain ⟨rm, hrm⟩ : ∃ rm, rdM p (nm s) = rm := ⟨_, rfl⟩
  have hm := readMan_any (h.below hb0) (hg.below hb0 hg.1) s hs rm hrm
  have HB0 := hide hb0
  have HBR := hide bR0
  unfold findS at hr
  rw [hrm] at hr
  have HR := hide hr
  have HRM := hide hrm
  clear h hg hr hb0 bR0 hrm
  go_enter Tryz.func32, Tryz.ntmps32
  go_wp2_with fail
  refine hm.mono ?_
  intro e w1 hq
  rcases hq with ⟨m, v1, rfl, rfl, ow1, b1⟩ | ⟨rfl, rfl, b1⟩
  · have hfacts := rdM_some HS.out.d.ok HRM.out
    obtain ⟨hn, hep, hn0, -, hlen, hsz⟩ := hfacts
    obtain ⟨af, cf, hv1⟩ := ow1.shape
    subst hv1
    have HF0 : Hid (FI w ((w1.alloc (.cells #[.int .u64 m.n, .int .u64 m.ep, .slice af m.ss.length cf] 110)).alloc (.cells #[.int .u64 m.n, .int .u64 m.ep, .slice af m.ss.length cf, .slice none 0 0] 84)) w1.heap.size (w1.heap.size + 1) m af cf (.slice none 0 0) []) := by
      have bR1 := HBR.out.kept (base := 0) (Kept.of_below b1) (by decide)
      have hbe := HB0.out.trans (b1.mono HB0.out.size)
      have hlt := bR1.lt
      exact ⟨(hbe.alloc hbe.size _).alloc (by simp; omega) _, (bR1.alloc _).alloc _, (BoxT.new 110 w1 _).alloc _, BoxT.new_at (by simp), ((ow1.mono (by simp)).alloc _).alloc _, OwnL.nil _ _ _ _ _, (fun c hc => by cases hc), by omega⟩
    have HRC : Hid ((chks p m.n 0 m.ss).map (fun cs => (⟨m.n, m.ep, m.ss, cs⟩ : Sp)) = r) := HR
    have HSZ := hide hsz
    clear hm ow1 b1 HR hsz HB0 HBR
    generalize hkm : w1.heap.size = kM at *
    have hchk0 : chks p m.n 0 m.ss = (chks p m.n 0 (m.ss.drop 0)).map (([] : List Ck).map Ck.l ++ ·) := by
      rw [List.drop_zero]; cases chks p m.n 0 m.ss <;> simp
    have HC0 := hide hchk0
    clear hchk0
    go_wp2
    go_loopw [34] (fun iv wr => ∃ (i : Nat) (v3 : Value) (acc : List Ck), i ≤ m.ss.length ∧ iv = .int .i64 i ∧ Hid (acc.length = i) ∧ Hid (FI w wr kM (kM + 1) m af cf v3 acc) ∧ Hid (chks p m.n 0 m.ss = (chks p m.n i (m.ss.drop i)).map (acc.map Ck.l ++ ·))) (fun iv _ => m.ss.length - (intOf iv).toNat)
    case atStart => exact ⟨0, _, [], Nat.zero_le _, rfl, rfl, HF0, HC0⟩
    case round =>
      obtain ⟨i, v3, acc, hi, rfl, HAL, HI, HC⟩ := hrel
      clear HF0 HC0
      obtain ⟨rc0, rc1, rc2, rc3⟩ := HI.out.bR.cells4
      have rf := HI.out.bR.free
      obtain ⟨mc0, mc1, mc2⟩ := HI.out.bM.cells3
      obtain ⟨sc0, sc1, sc2, sc3⟩ := HI.out.bS.cells4
      by_cases hlt : i < m.ss.length
      · obtain ⟨f, hf⟩ : ∃ f, m.ss[i]? = some f := ⟨_, List.getElem?_eq_getElem hlt⟩
        obtain ⟨ao', cap', e1, -, hsg⟩ := HI.out.files.sseg (by omega) (Nat.le_refl _)
        cases e1
        obtain ⟨gb, goff, rfl, -, hcell⟩ : ∃ b off, af = some ⟨b, off, none⟩ ∧ True ∧ wr.cell? ⟨b, off + i, none⟩ = some (.string f) := by
          rcases hsg with hsg | ⟨b', off', h5, h6, h7⟩
          · rw [hsg] at hlt; simp at hlt
          · exact ⟨b', off', h5, trivial, h7 i f hf⟩
        clear hsg
        have hfs : f.size ≤ maxLen := by
          have := HSZ.out f (List.mem_of_getElem? hf)
          unfold maxLen; omega
        obtain ⟨rf1, hrf1⟩ : ∃ x, rdF p (nm f) = x := ⟨_, rfl⟩
        have hrd := readFile_any (HS.out.below HI.out.bel) (HG.out.below HI.out.bel HG.out.1) f hfs rf1 hrf1
        have HCI : Hid (chks p m.n i (m.ss.drop i) = chk1 m.n i f rf1 (chks p m.n (i + 1) (m.ss.drop (i + 1)))) := by
          show _ = _
          rw [List.drop_eq_getElem_cons hlt, show m.ss[i] = f from by rw [List.getElem?_eq_getElem hlt] at hf; exact Option.some.inj hf]
          rw [chks, hrf1]
        have HBY : Hid (∀ l, rf1 = some l → Byts l ∧ l.length ≤ 1048576) := fun l hl => rdF_byts HS.out.d.ok (hrf1.trans hl)
        clear hf hrf1
        go_wp2_with fail
        refine hrd.mono ?_
        intro e w2 hq
        rcases hq with ⟨l, v2, rfl, rfl, ow2, b2⟩ | ⟨rfl, rfl, b2⟩
        · obtain ⟨hby, hll⟩ := HBY.out l rfl
          have hll' : l.length ≤ 140737488355328 := by omega
          obtain ⟨a2, c2, hv2, _⟩ := ow2.seg hll'
          subst hv2
          have HI2 := hide (HI.out.below b2)
          have CK2 : Hid (Ck.ok w.heap.size w2 ⟨l, a2, c2⟩) := Own.mono ow2 HI.out.bel.size
          have hpn := partName_any m.n i hn (by omega) (.slice a2 l.length c2) l w2 (ow2.seg hll') hby (HG.out.below HI2.out.bel HG.out.1)
          obtain ⟨me0, me1, me2⟩ := HI2.out.bM.cells3
          clear hrd b2 ow2 rc0 rc1 rc2 rc3 rf sc0 sc1 sc2 sc3 mc0 mc1 mc2 hcell
          go_wp2_with fail
          refine hpn.mono ?_
          rintro e w3 ⟨rfl, b3⟩
          have HI3 := hide (HI2.out.below b3)
          have CK3 := hide (CK2.out.below b3)
          have hbq := beq_string f (partN m.n i (crc l))
          clear hpn b3 CK2 HI2 me0 me1 me2
          by_cases he : f = partN m.n i (crc l)
          · rw [decide_eq_true he] at hbq
            have HEF := hide he
            clear he
            have hup := unpack_any (.slice a2 l.length c2) l w3 (CK3.out.seg hll') hby (HG.out.below HI3.out.bel HG.out.1) (by omega)
            go_wp2_with fail
            refine hup.mono ?_
            intro e w4 hq
            rcases hq with ⟨xs, v4, hxs, hne, rfl, ox4, -, b4⟩ | ⟨hxs, rfl, b4⟩
            · have hok : upOk l = true := by
                unfold upOk
                rw [hxs]
                cases xs with
                | nil => exact absurd rfl hne
                | cons y ys => rfl
              obtain ⟨a4, c4, hv4⟩ := ox4.shape
              subst hv4
              have HI4 := hide (HI3.out.below b4)
              have CK4 := hide (CK3.out.below b4)
              have HCN : Hid (chks p m.n 0 m.ss = (chks p m.n (i + 1) (m.ss.drop (i + 1))).map ((acc ++ [(⟨l, a2, c2⟩ : Ck)]).map Ck.l ++ ·)) := by
                show _ = _
                rw [HC.out, HCI.out, chk1]
                rw [if_pos ⟨HEF.out, hok⟩]
                cases chks p m.n (i + 1) (m.ss.drop (i + 1)) <;> simp
              obtain ⟨a3, c3, hv3⟩ := HI4.out.own.shape
              subst hv3
              obtain ⟨sd0, sd1, sd2, sd3⟩ := HI4.out.bS.cells4
              have sf := HI4.out.bS.free
              have hla : acc.length ≤ 1000000 := by have := HAL.out; omega
              have ba : Below w4.heap.size w4 (w4.alloc (.cells #[.slice a2 l.length c2] 22)) := (Below.refl _ _).alloc (Nat.le_refl _) _
              have HI5 := hide (HI4.out.below ba)
              have CK5 := hide (CK4.out.below ba)
              have hsz5 := HI5.out.bel.size
              clear hup hxs hne ox4 b4 HI3 CK3 hok ba HI CK4
              go_wp2_with (first | (at_builtin; refine app_ownL Tryz.info22 Tryz.underlying82 rfl (by decide) (by decide) (fun _ => rfl) (fun z u hu => by simp [Ck.cs] at hu; subst hu; rfl) rfl _ _ rfl w.heap.size _ acc rfl HI5.out.own ⟨w4.heap.size, 0, none⟩ 1 ⟨l, a2, c2⟩ rfl (fun j u hu => by match j, hu with | 0, hu => simp [Ck.cs, Ck.v] at hu; subst hu; simp [Addr.add]) hla hsz5 ?_) | fail)
              intro v5 w5 ho5 hg5
              obtain ⟨a5, c5, hv5⟩ := ho5.shape
              subst hv5
              have HI6 := hide (HI5.out.add CK5.out ho5 hg5)
              rw [show (acc ++ [(⟨l, a2, c2⟩ : Ck)]).length = acc.length + 1 from by simp] at HI6
              obtain ⟨se0, se1, se2, se3⟩ := (HI5.out.bS.rowed (by decide) HI5.out.own hg5).cells4
              have sf5 := (HI5.out.bS.rowed (by decide) HI5.out.own hg5).free
              clear ho5 hg5 HI5 CK5 HI4 sd0 sd1 sd2 sd3 sf
              go_wp2
              go_roundw
              case rel =>
                refine ⟨i + 1, _, _, by omega, by go_num, ?_, HI6, HCN⟩
                show _ = _; rw [List.length_append, HAL.out]; rfl
              case measure => simp [intOf]; omega
            · have HI4 := hide (HI3.out.below b4)
              have HRN : Hid (r = none) := by
                show _ = _
                have hno : ¬ (f = partN m.n i (crc l) ∧ upOk l = true) := fun hh => by
                  have := hh.2
                  unfold upOk at this
                  rcases hxs with hxs | hxs <;> rw [hxs] at this <;> cases this
                rw [← HRC.out, HC.out, HCI.out, chk1]
                rw [if_neg hno]; rfl
              obtain ⟨rd0, rd1, rd2, rd3⟩ := HI4.out.bR.cells4
              have rf2 := HI4.out.bR.free
              clear hup b4 hxs HI3 CK3
              go_wp2
              obtain ⟨hW, hx, -⟩ := fin84 HI4.out.bR (.int .u64 0) (.int .u64 0) (.slice none 0 0) (.slice none 0 0) _ rfl
              obtain ⟨x0, x1, x2, x3⟩ := hx.cells4
              exact bodyPost_ret (v := .tuple #[.agg #[.int .u64 0, .int .u64 0, .slice none 0 0, .slice none 0 0], .bool false]) (by simp [results, Tryz.results32, go_sem, x0, x1, x2, x3]) rfl (.inr ⟨HRN.out, rfl, HI4.out.bel.trans hW⟩)
          · rw [decide_eq_false he] at hbq
            have HRN : Hid (r = none) := by
              show _ = _
              rw [← HRC.out, HC.out, HCI.out, chk1]
              rw [if_neg (fun hh => he hh.1)]; rfl
            obtain ⟨rd0, rd1, rd2, rd3⟩ := HI3.out.bR.cells4
            have rf2 := HI3.out.bR.free
            clear he CK3
            go_wp2
            obtain ⟨hW, hx, -⟩ := fin84 HI3.out.bR (.int .u64 0) (.int .u64 0) (.slice none 0 0) (.slice none 0 0) _ rfl
            obtain ⟨x0, x1, x2, x3⟩ := hx.cells4
            exact bodyPost_ret (v := .tuple #[.agg #[.int .u64 0, .int .u64 0, .slice none 0 0, .slice none 0 0], .bool false]) (by simp [results, Tryz.results32, go_sem, x0, x1, x2, x3]) rfl (.inr ⟨HRN.out, rfl, HI3.out.bel.trans hW⟩)
        · have HI2 := hide (HI.out.below b2)
          have HRN : Hid (r = none) := by
            show _ = _
            rw [← HRC.out, HC.out, HCI.out]; rfl
          obtain ⟨rd0, rd1, rd2, rd3⟩ := HI2.out.bR.cells4
          have rf2 := HI2.out.bR.free
          clear hrd b2 rc0 rc1 rc2 rc3 rf sc0 sc1 sc2 sc3 mc0 mc1 mc2
          go_wp2
          obtain ⟨hW, hx, -⟩ := fin84 HI2.out.bR (.int .u64 0) (.int .u64 0) (.slice none 0 0) (.slice none 0 0) _ rfl
          obtain ⟨x0, x1, x2, x3⟩ := hx.cells4
          exact bodyPost_ret (v := .tuple #[.agg #[.int .u64 0, .int .u64 0, .slice none 0 0, .slice none 0 0], .bool false]) (by simp [results, Tryz.results32, go_sem, x0, x1, x2, x3]) rfl (.inr ⟨HRN.out, rfl, HI2.out.bel.trans hW⟩)
      · obtain rfl : i = m.ss.length := by omega
        obtain ⟨a3, c3, hv3⟩ := HI.out.own.shape
        subst hv3
        have HRS : Hid (r = some ⟨m.n, m.ep, m.ss, acc.map Ck.l⟩) := by
          show _ = _
          rw [← HRC.out, HC.out, List.drop_length, chks]; simp
        go_wp2
        obtain ⟨hW, hx, hrow⟩ := fin84 HI.out.bR (.int .u64 m.n) (.int .u64 m.ep) (.slice af m.ss.length cf) (.slice a3 acc.length c3) _ rfl
        obtain ⟨x0, x1, x2, x3⟩ := hx.cells4
        exact bodyPost_ret (v := .tuple #[.agg #[.int .u64 m.n, .int .u64 m.ep, .slice af m.ss.length cf, .slice a3 acc.length c3], .bool true]) (by simp [results, Tryz.results32, go_sem, x0, x1, x2, x3]) rfl (.inl ⟨⟨m.n, m.ep, m.ss, af, cf, acc, a3, c3⟩, HRS.out, rfl, ⟨hrow _ _ _ _ _ _ (by decide) HI.out.files, hrow _ _ _ _ _ _ (by decide) HI.out.own, fun c hc => hrow _ _ _ _ _ _ (by decide) (HI.out.oks c hc)⟩, HI.out.bel.trans hW⟩)
  · have bR1 := HBR.out.kept (base := 0) (Kept.of_below b1) (by decide)
    obtain ⟨c0, c1, c2, c3⟩ := bR1.cells4
    have fa := bR1.free
    have hbe := hide (HB0.out.trans (b1.mono HB0.out.size))
    have hw1 : w.heap.size < w1.heap.size := bR1.lt
    have HRN : Hid (r = none) := HR.out.symm
    clear hm
    go_wp2
    obtain ⟨hW, hx, -⟩ := fin84 bR1 (.int .u64 0) (.int .u64 0) (.slice none 0 0) (.slice none 0 0) _ rfl
    obtain ⟨x0, x1, x2, x3⟩ := (hx.alloc (.cells #[.int .u64 0, .int .u64 0, .slice none 0 0] 110)).cells4
    exact bodyPost_ret (v := .tuple #[.agg #[.int .u64 0, .int .u64 0, .slice none 0 0, .slice none 0 0], .bool false]) (by simp [results, Tryz.results32, go_sem, x0, x1, x2, x3]) rfl (.inr ⟨HRN.out, rfl, (hbe.out.trans hW).alloc (Nat.le_of_lt (Nat.lt_of_lt_of_le hw1 hW.size)) _⟩)
end Go.Proofs.YtbfhcbihgleddaaGreatDoor
/-
  The vault's pack: the parts as chunks.
-/
namespace Go.Proofs.YtbfhcbihgleddaaGreatDoor
open Go.RowKit

/-- Parts that came in, as they lie. -/
structure SnsIn (B : Nat) (w : World) (v : Value) (xs : List SnV) : Prop where
  row : LSeg 6 SnV.cs B w v xs
  each : ∀ x ∈ xs, SnSeg B w (.slice x.am x.s.marks.length x.cm) (.slice x.ap x.s.panes.length x.cp) (.slice x.ac x.s.outs.length x.cc) x.s
  pos : ∀ x ∈ xs, ∀ o ∈ x.s.outs, 0 ≤ o.f.n
theorem SnsIn.below {B : Nat} {w w' : World} {v : Value} {xs : List SnV} (h : SnsIn B w v xs) (hb : Below B w w') : SnsIn B w' v xs := ⟨h.row.below hb, fun x hx => (h.each x hx).below hb, h.pos⟩
/-- The chunks of parts. -/
def pk : List (List Nat) → List Nat → List Sn → List (List Nat) × Int
  | acc, c, [] => (if c = [] then acc else acc ++ [c], 0)
  | acc, c, s :: ss => if sEr s = 0 then (if 1048568 < c.length + (sealed (sOut s)).length then pk (acc ++ [c]) (sealed (sOut s)) ss else pk acc (c ++ sealed (sOut s)) ss) else ([], sEr s)
def PPost (w : World) (r : List (List Nat) × Int) (e : Ending) (w' : World) : Prop :=
  ∃ (a : Option Addr) (c : Nat) (cks : List Ck), e = .returned (.tuple #[.slice a cks.length c, .int .i64 r.2]) ∧ r.1 = cks.map Ck.l ∧ OwnL 22 1 Ck.cs w.heap.size w' (.slice a cks.length c) cks ∧ (∀ x ∈ cks, x.ok w.heap.size w') ∧ Below w.heap.size w w'
/-- In the midst of pack. -/
structure PI (w wr : World) (v4 v5 : Value) (acc : List Ck) (c : List Nat) : Prop where
  bel : Below w.heap.size w wr
  own : OwnL 22 1 Ck.cs w.heap.size wr v4 acc
  oks : ∀ x ∈ acc, x.ok w.heap.size wr
  cur : Own w.heap.size wr v5 c
  far : ∀ x ∈ acc, ∀ g, v5.ownBlock = some g → x.v.ownBlock ≠ some g
  nil : c = [] → v5 = .slice none 0 0
theorem PI.below {w wr w' : World} {v4 v5 : Value} {acc : List Ck} {c : List Nat} (h : PI w wr v4 v5 acc c) (hb : Below wr.heap.size wr w') : PI w w' v4 v5 acc c :=
  ⟨h.bel.trans (hb.mono h.bel.size), h.own.below hb, fun x hx => (h.oks x hx).below hb, h.cur.below hb (Nat.le_refl _), h.far, h.nil⟩
theorem own_form {base : Nat} {w : World} {v : Value} {l : List Nat} (h : Own base w v l) : ∃ a cap, v = .slice a l.length cap := by
  rcases h.2 with ⟨rfl, h0⟩ | ⟨g, cap, cur, rfl, _⟩
  · exact ⟨none, 0, by rw [h0]⟩
  · exact ⟨_, cap, rfl⟩
/-- The chunk goes to the others, and a new one begins. -/
theorem PI.push {w wr w' : World} {v4 v6 : Value} {acc : List Ck} {c : List Nat} {a5 : Option Addr} {c5 : Nat} (h : PI w wr v4 (.slice a5 c.length c5) acc c) (ho : OwnL 22 1 Ck.cs w.heap.size w' v6 (acc ++ [⟨c, a5, c5⟩])) (hg : wr.grownBy w' v4.ownBlock) : PI w w' v6 (.slice none 0 0) (acc ++ [⟨c, a5, c5⟩]) [] := by
  refine ⟨OwnL.bel h.bel h.own hg h.bel.size, ho, ?_, Own.nil _ _, (fun x _ g e => by cases e), fun _ => rfl⟩
  intro x hx
  rcases List.mem_append.1 hx with hx | hx
  · exact row_other (by decide) (h.oks x hx) h.own hg
  · rcases List.mem_singleton.1 hx with rfl
    exact row_other (by decide) h.cur h.own hg
/-- The chunk grows. -/
theorem PI.grow {w wr w' : World} {v4 v5 : Value} {acc : List Ck} {c d : List Nat} {g cap : Nat} (h : PI w wr v4 v5 acc c) (ho : w'.ownsRow w.heap.size 5 1 (.slice (some ⟨g, 0, none⟩) (c.length + d.length) cap) (c.length + d.length) (bs c ++ bs d)) (hg : wr.grownBy w' v5.ownBlock) (hat : v5.ownBlock = some g ∨ g = wr.heap.size) (hd : d ≠ []) : PI w w' v4 (.slice (some ⟨g, 0, none⟩) (c.length + d.length) cap) acc (c ++ d) := by
  have hne : c ++ d ≠ [] := by simp [hd]
  have hfar : ∀ x ∈ acc, ∀ g', v5.ownBlock = some g' → x.v.ownBlock ≠ some g' := h.far
  have hst : ∀ x ∈ acc, ∀ gx, x.v.ownBlock = some gx → w'.heap[gx]? = wr.heap[gx]? := fun x hx gx e => by
    obtain ⟨cur, hc⟩ := row_has (h.oks x hx) gx e
    exact hg.block gx (Array.getElem?_eq_some_iff.1 hc).1 fun e2 => hfar x hx gx e2.symm e
  refine ⟨?_, row_other (by decide) h.own h.cur hg, fun x hx => row_back (h.oks x hx) (hst x hx), ?_, ?_, fun e => absurd e hne⟩
  · have hb := h.bel
    exact ⟨hg.os.trans hb.os, hg.tape.trans hb.tape, hg.output.trans hb.output, Nat.le_trans hb.size hg.size, fun i hi => (hg.block i (by have := hb.size; omega) (fun e => by have := (World.ownsRow.lt h.cur i e.symm).1; omega)).trans (hb.block i hi)⟩
  · show w'.ownsRow w.heap.size 5 1 _ (c ++ d).length (bs (c ++ d))
    rw [List.length_append, bs_append]; exact ho
  · intro x hx g' e ex
    obtain rfl : g = g' := Option.some.inj e
    rcases hat with hat | hat
    · exact hfar x hx g hat ex
    · obtain ⟨cur, hc⟩ := row_has (h.oks x hx) g ex
      have := (Array.getElem?_eq_some_iff.1 hc).1
      omega
theorem sOut_byts (s : Sn) : Byts (sOut s) := by
  unfold sOut
  split
  · exact Byts.nil
  · split
    · exact snb_byts s
    · exact Byts.nil

/-- append of a row of bytes onto an own one: the old block, or a new one. -/
theorem app_chunk {w : World} {ops : Array Oper} {rest : List Oper} {o : Oper} {a : Act} {Q : Exit → Act → World → Prop} (hgd : o.guard = none) (s x : Operand)
    (ho : o.op = .call { callee := .builtin .append, args := #[s, x], argTypes := #[22, 22] }) (base : Nat) (v : Value) (c : List Nat) (hs : a.eval s = v) (hown : Own base w v c)
    (g9 cap9 b9 : Nat) (d : List Nat) (hx : a.eval x = .slice (some ⟨g9, 0, none⟩) d.length cap9) (h9 : Own b9 w (.slice (some ⟨g9, 0, none⟩) d.length cap9) d) (hd : d ≠ []) (hl : c.length + d.length ≤ 10000000) (hbase : base ≤ w.heap.size)
    (h : ∀ g cap w', w'.ownsRow base 5 1 (.slice (some ⟨g, 0, none⟩) (c.length + d.length) cap) (c.length + d.length) (bs c ++ bs d) → w.grownBy w' v.ownBlock → (v.ownBlock = some g ∨ g = w.heap.size) → wpList Tryz.prog ops Q rest (a.put o.dst (.slice (some ⟨g, 0, none⟩) (c.length + d.length) cap)) w') : wpList Tryz.prog ops Q (o :: rest) a w := by
  obtain ⟨i0, hi, hz0, hz1, hz2⟩ := info_parts Tryz.info5
  have hdl : 0 < d.length := List.length_pos_iff.2 hd
  refine wpList_append_lies w hgd s x 22 ho base 5 i0 (.int .u8 0) 1 1 Tryz.underlying22 hi hz0 hz1 hz2 rfl (by decide) v c.length (bs c) hs hown ⟨g9, 0, none⟩ d.length cap9 (bs d) hx (by simp [bs]) (World.ownsRow.cells h9 rfl) ?_ hdl (by unfold maxLen; omega) (by omega) hbase w.heap.size rfl ?_
  · intro u hu
    simp only [bs, List.mem_map] at hu
    obtain ⟨y, _, rfl⟩ := hu
    rfl
  · intro g cap w' h1 h2 h3 _
    exact h g cap w' h1 h2 h3

set_option maxHeartbeats 4000000 in
set_option maxRecDepth 100000 in
theorem pack_any (v : Value) (xs : List SnV) (w : World) (h : SnsIn w.heap.size w v xs) (hg : Glob w) (hl : xs.length ≤ 100000) : Calls Tryz.prog 37 #[v] w (PPost w (pk [] [] (xs.map SnV.s))) := by
  have H0 : Hid (PI w w (.slice none 0 0) (.slice none 0 0) [] []) := ⟨Below.refl _ _, OwnL.nil _ _ _ _ _, (fun x hx => by cases hx), Own.nil _ _, (fun x hx => by cases hx), fun _ => rfl⟩
  have HX := hide h
  have HG := hide hg
  generalize hr : pk [] [] (xs.map SnV.s) = r
  have HR : Hid (pk (([] : List Ck).map Ck.l) [] ((xs.drop 0).map SnV.s) = r) := by rw [List.drop_zero]; exact hr
  obtain ⟨ax, cx, rfl, hxl, hxs⟩ := h.row
  clear h hg hr hxs
  go_enter Tryz.func37, Tryz.ntmps37
  go_wp2
  go_loopw [4, 5, 13] (fun v4 v5 iv wr => ∃ (i : Nat) (acc : List Ck) (c : List Nat), i ≤ xs.length ∧ iv = .int .i64 i ∧ Hid (PI w wr v4 v5 acc c) ∧ Hid (pk (acc.map Ck.l) c ((xs.drop i).map SnV.s) = r) ∧ Hid (acc.length ≤ i ∧ c.length ≤ 1048568)) (fun _ _ iv _ => xs.length - (intOf iv).toNat)
  case atStart => exact ⟨0, [], [], Nat.zero_le _, rfl, H0, HR, Nat.le_refl _, by simp⟩
  case round =>
    obtain ⟨i, acc, c, hi, rfl, HI, HE, HL⟩ := hrel
    clear H0 HR
    obtain ⟨a4, c4, hv4⟩ := HI.out.own.shape
    subst hv4
    obtain ⟨a5, c5, hv5⟩ := own_form HI.out.cur
    subst hv5
    have hal : acc.length ≤ 1000000 := by have := HL.out.1; omega
    have hcl := HL.out.2
    by_cases hlt : i < xs.length
    · obtain ⟨x, hx⟩ : ∃ x, xs[i]? = some x := ⟨_, List.getElem?_eq_getElem hlt⟩
      have hmem := List.mem_of_getElem? hx
      have HX1 := hide (HX.out.below HI.out.bel)
      obtain ⟨ax', cx', e1, -, hsg⟩ := HX1.out.row
      cases e1
      obtain ⟨gb, go, rfl, hc0, hc1, hc2, hc3, hc4, hc5⟩ : ∃ gb go, ax = some ⟨gb, go, none⟩ ∧ wr.cell? ⟨gb, go + i * 6, none⟩ = some (.int .i64 x.s.task) ∧ wr.cell? ⟨gb, go + i * 6 + 1, none⟩ = some (.int .i64 x.s.off) ∧ wr.cell? ⟨gb, go + i * 6 + 2, none⟩ = some (.int .i64 x.s.mark) ∧ wr.cell? ⟨gb, go + i * 6 + 3, none⟩ = some (.slice x.am x.s.marks.length x.cm) ∧ wr.cell? ⟨gb, go + i * 6 + 4, none⟩ = some (.slice x.ap x.s.panes.length x.cp) ∧ wr.cell? ⟨gb, go + i * 6 + 5, none⟩ = some (.slice x.ac x.s.outs.length x.cc) := by
        rcases hsg with hsg | ⟨b', off', h5, h6, h7⟩
        · rw [hsg] at hlt; simp at hlt
        · exact ⟨b', off', h5, h7 i x hx 0 _ rfl, h7 i x hx 1 _ rfl, h7 i x hx 2 _ rfl, h7 i x hx 3 _ rfl, h7 i x hx 4 _ rfl, h7 i x hx 5 _ rfl⟩
      clear hsg
      have HEN : Hid (r = (if sEr x.s = 0 then (if 1048568 < c.length + (sealed (sOut x.s)).length then pk (acc.map Ck.l ++ [c]) (sealed (sOut x.s)) ((xs.drop (i + 1)).map SnV.s) else pk (acc.map Ck.l) (c ++ sealed (sOut x.s)) ((xs.drop (i + 1)).map SnV.s)) else ([], sEr x.s))) := by
        show _ = _
        rw [← HE.out, List.drop_eq_getElem_cons hlt, show xs[i] = x from by rw [List.getElem?_eq_getElem hlt] at hx; exact Option.some.inj hx, List.map_cons, pk]
      have ba : Below wr.heap.size wr (wr.alloc (.cells #[.int .i64 x.s.task, .int .i64 x.s.off, .int .i64 x.s.mark, .slice x.am x.s.marks.length x.cm, .slice x.ap x.s.panes.length x.cp, .slice x.ac x.s.outs.length x.cc] 27)) := (Below.refl _ _).alloc (Nat.le_refl _) _
      have hsz := HI.out.bel.size
      have hsn := Snap_any x.s _ _ _ (wr.alloc (.cells #[.int .i64 x.s.task, .int .i64 x.s.off, .int .i64 x.s.mark, .slice x.am x.s.marks.length x.cm, .slice x.ap x.s.panes.length x.cp, .slice x.ac x.s.outs.length x.cc] 27)) (HX.out.pos x hmem) (((HX1.out.each x hmem).below (ba.mono hsz)).mono (Nat.le_trans hsz ba.size))
      have HI1 := hide (HI.out.below ba)
      clear ba hx hmem HX1
      go_wp2_with fail
      refine hsn.mono ?_
      rintro e w2 ⟨v8, rfl, ow8, b2⟩
      have HI2 := hide (HI1.out.below b2)
      have hsl := sOut_len x.s
      obtain ⟨a8, c8, hv8⟩ := own_form ow8
      subst hv8
      clear hsn HI1 b2 hc0 hc1 hc2 hc3 hc4 hc5
      by_cases hse : sEr x.s = 0
      · rw [hse]
        have HEN2 := HEN
        rw [if_pos hse] at HEN2
        have hsb := sOut_byts x.s
        have hseal := Seal_any (.slice a8 (sOut x.s).length c8) (sOut x.s) w2 (ow8.seg (by omega)) hsb (HG.out.below HI2.out.bel HG.out.1) (by omega)
        have hdl := sealed_len (sOut x.s)
        generalize sealed (sOut x.s) = d at *
        generalize (sOut x.s).length = ol at *
        have hdne : d ≠ [] := by intro e; rw [e] at hdl; simp at hdl
        have hd8 : 8 ≤ d.length := by omega
        have hd9 : d.length ≤ 1000008 := by omega
        clear HEN ow8 hsb hse hdl
        go_wp2_with fail
        refine hseal.mono ?_
        rintro e w3 ⟨v9, rfl, ow9, b3⟩
        obtain ⟨g9, cap9, hv9, -, -⟩ := ow9.form (by omega)
        subst hv9
        have HI3 := hide (HI2.out.below b3)
        have OW9 := hide ow9
        clear hseal HI2 b3 ow9
        by_cases hbig : 1048568 < c.length + d.length
        · rw [if_pos hbig] at HEN2
          have hbig' : (1048568 : Int) < (c.length : Int) + (d.length : Int) := by omega
          have ba : Below w3.heap.size w3 (w3.alloc (.cells #[.slice a5 c.length c5] 22)) := (Below.refl _ _).alloc (Nat.le_refl _) _
          have HI4 := hide (HI3.out.below ba)
          have OW94 := hide (OW9.out.below ba (Nat.le_refl _))
          have hsz4 := HI4.out.bel.size
          clear ba HI3 OW9
          go_wp2_with (first | (at_builtin; refine app_ownL Tryz.info22 Tryz.underlying82 rfl (by decide) (by decide) (fun _ => rfl) (fun z u hu => by simp [Ck.cs] at hu; subst hu; rfl) rfl _ _ rfl w.heap.size _ acc rfl HI4.out.own ⟨w3.heap.size, 0, none⟩ 1 ⟨c, a5, c5⟩ rfl (fun j u hu => by match j, hu with | 0, hu => simp [Ck.cs, Ck.v] at hu; subst hu; simp [Addr.add]) hal hsz4 ?_) | fail)
          intro v6 w6 ho6 hg6
          have HI6 := hide (HI4.out.push ho6 hg6)
          have OW96 : Hid (Own w2.heap.size w6 (.slice (some ⟨g9, 0, none⟩) d.length cap9) d) := row_other (by decide) OW94.out HI4.out.own hg6
          have hsz6 := HI6.out.bel.size
          clear ho6 hg6 HI4 OW94
          go_wp2_with (first | (at_builtin; refine app_chunk rfl _ _ rfl w.heap.size (.slice none 0 0) [] rfl HI6.out.cur g9 cap9 w2.heap.size d rfl OW96.out hdne (by simp; omega) hsz6 ?_) | fail)
          intro g7 cap7 w7 ho7 hg7 hat7
          have HI7 : Hid (PI w w7 v6 (.slice (some ⟨g7, 0, none⟩) d.length cap7) (acc ++ [⟨c, a5, c5⟩]) d) := by
            have := HI6.out.grow (g := g7) (cap := cap7) (d := d) (by simpa using ho7) hg7 hat7 hdne
            rw [List.nil_append, List.length_nil, Nat.zero_add] at this
            exact this
          clear ho7 hg7 hat7 HI6 OW96
          go_wp2
          go_roundw
          case rel =>
            refine ⟨i + 1, _, d, by omega, by go_num, HI7, ?_, ?_⟩
            · show _ = _; rw [HEN2.out]; simp
            · have := HL.out; exact ⟨by simp; omega, by omega⟩
          case measure => simp [intOf]; omega
        · rw [if_neg hbig] at HEN2
          have hbig' : ¬ ((1048568 : Int) < (c.length : Int) + (d.length : Int)) := by omega
          have hsz3 := HI3.out.bel.size
          go_wp2_with (first | (at_builtin; refine app_chunk rfl _ _ rfl w.heap.size (.slice a5 c.length c5) c rfl HI3.out.cur g9 cap9 w2.heap.size d rfl OW9.out hdne (by omega) hsz3 ?_) | fail)
          intro g7 cap7 w7 ho7 hg7 hat7
          have HI7 := hide (HI3.out.grow ho7 hg7 hat7 hdne)
          clear ho7 hg7 hat7 HI3 OW9
          go_wp2
          go_roundw
          case rel =>
            refine ⟨i + 1, acc, c ++ d, by omega, by go_num, HI7, ?_, ?_⟩
            · show _ = _; rw [HEN2.out]
            · have := HL.out; exact ⟨by omega, by simp; omega⟩
          case measure => simp [intOf]; omega
      · have HRN : Hid (r = ([], sEr x.s)) := by
          show _ = _
          rw [HEN.out, if_neg hse]
        have hse' : (sEr x.s == 0) = false := by simpa using hse
        clear ow8
        go_wp2
        go_ret2
        rw [HRN.out]
        exact ⟨none, 0, [], rfl, rfl, OwnL.nil _ _ _ _ _, (fun x hx => by cases hx), HI2.out.bel⟩
    · obtain rfl : i = xs.length := by omega
      have HRN : Hid (r = (if c = [] then acc.map Ck.l else acc.map Ck.l ++ [c], 0)) := by
        show _ = _
        rw [← HE.out, List.drop_length]; rfl
      by_cases hc : c = []
      · rw [if_pos hc] at HRN
        subst hc
        go_wp2
        go_ret2
        rw [HRN.out]
        exact ⟨a4, c4, acc, rfl, rfl, HI.out.own, HI.out.oks, HI.out.bel⟩
      · rw [if_neg hc] at HRN
        have hcp : 0 < c.length := List.length_pos_iff.2 hc
        have ba : Below wr.heap.size wr (wr.alloc (.cells #[.slice a5 c.length c5] 22)) := (Below.refl _ _).alloc (Nat.le_refl _) _
        have HI4 := hide (HI.out.below ba)
        have hsz4 := HI4.out.bel.size
        clear ba HI
        go_wp2_with (first | (at_builtin; refine app_ownL Tryz.info22 Tryz.underlying82 rfl (by decide) (by decide) (fun _ => rfl) (fun z u hu => by simp [Ck.cs] at hu; subst hu; rfl) rfl _ _ rfl w.heap.size _ acc rfl HI4.out.own ⟨wr.heap.size, 0, none⟩ 1 ⟨c, a5, c5⟩ rfl (fun j u hu => by match j, hu with | 0, hu => simp [Ck.cs, Ck.v] at hu; subst hu; simp [Addr.add]) hal hsz4 ?_) | fail)
        intro v6 w6 ho6 hg6
        have HI6 := hide (HI4.out.push ho6 hg6)
        obtain ⟨a6, c6, hv6⟩ := ho6.shape
        subst hv6
        clear ho6 hg6 HI4
        go_wp2
        go_ret2
        rw [HRN.out]
        exact ⟨a6, c6, _, by simp, by simp, HI6.out.own, HI6.out.oks, HI6.out.bel⟩
end Go.Proofs.YtbfhcbihgleddaaGreatDoor
