/-
  Texts of the vault, in build order: VRead, VMan, VUnpack.
-/
import Derived.Test.YtbfhcbihgleddaaGreatDoorM27
/-
  What the vault reads from a disk: a file that is one seal, a manifest.
-/
namespace Go.Proofs.YtbfhcbihgleddaaGreatDoor
open Go.RowKit

/-- Does a name begin so? -/
def pre (p s : List UInt8) : Bool := s.take p.length == p
theorem extract_nm (s : ByteArray) (k : Nat) : nm (s.extract 0 k) = (nm s).take k := by
  simp [nm, ByteArray.data_extract]
theorem pre_eq (s p : ByteArray) : (decide (p.size ≤ s.size) && ((s.extract 0 p.size).toList == p.toList)) = pre (nm p) (nm s) := by
  rw [ByteArray.toList_eq, ByteArray.toList_eq]
  show (decide (p.size ≤ s.size) && (nm (s.extract 0 p.size) == nm p)) = _
  rw [extract_nm, pre, nm_length]
  by_cases h : p.size ≤ s.size
  · simp [h]
  · have : ((nm s).take p.size == nm p) = false := by
      simp only [beq_eq_false_iff_ne, ne_eq]
      intro e
      have := congrArg List.length e
      rw [List.length_take, nm_length, nm_length] at this
      omega
    rw [this]; simp
set_option maxRecDepth 100000 in
theorem pre_core (s p : ByteArray) (_hs : s.size ≤ maxLen) (_hp : p.size ≤ 1000) (w : World) : Calls Tryz.prog 115 #[.string s, .string p] w fun e w' => e = .returned (.bool (pre (nm p) (nm s))) ∧ w' = w := by
  have he := pre_eq s p
  by_cases h : p.size ≤ s.size
  · rw [decide_eq_true h, Bool.true_and] at he
    rw [← he]
    clear he
    go_enter Tryz.func115, Tryz.ntmps115
    go_wp2
    go_ret
    exact ⟨rfl, rfl⟩
  · rw [decide_eq_false h, Bool.false_and] at he
    rw [← he]
    clear he
    go_enter Tryz.func115, Tryz.ntmps115
    go_wp2
    go_ret
    exact ⟨rfl, rfl⟩
theorem prefix_any (s p : ByteArray) (hs : s.size ≤ maxLen) (hp : p.size ≤ 1000) (w : World) : Calls Tryz.prog 81 #[.string s, .string p] w fun e w' => e = .returned (.bool (pre (nm p) (nm s))) ∧ w' = w := by
  have hc := pre_core s p hs hp w
  go_enter Tryz.func81, Tryz.ntmps81
  go_wp2_with fail
  refine hc.mono ?_
  rintro e w' ⟨rfl, rfl⟩
  go_wp2
  go_ret
  exact ⟨rfl, rfl⟩
def hPart : List UInt8 := [112, 97, 114, 116, 46]
def hWhole : List UInt8 := [119, 104, 111, 108, 101, 46]
def hNew : List UInt8 := [110, 101, 119, 46]
/-- Is it a name that the vault gives? -/
def ownN (s : List UInt8) : Bool := pre hPart s || (pre hWhole s || pre hNew s)
set_option maxRecDepth 100000 in
theorem own_any (s : ByteArray) (hs : s.size ≤ maxLen) (w : World) : Calls Tryz.prog 64 #[.string s] w fun e w' => e = .returned (.bool (ownN (nm s))) ∧ w' = w := by
  have h1 := prefix_any s ⟨#[112, 97, 114, 116, 46]⟩ hs (by decide) w
  have h2 := prefix_any s ⟨#[119, 104, 111, 108, 101, 46]⟩ hs (by decide) w
  have h3 := prefix_any s ⟨#[110, 101, 119, 46]⟩ hs (by decide) w
  have e1 : nm ⟨#[112, 97, 114, 116, 46]⟩ = hPart := rfl
  have e2 : nm ⟨#[119, 104, 111, 108, 101, 46]⟩ = hWhole := rfl
  have e3 : nm ⟨#[110, 101, 119, 46]⟩ = hNew := rfl
  rw [e1] at h1
  rw [e2] at h2
  rw [e3] at h3
  unfold ownN
  clear e1 e2 e3
  generalize pre hPart (nm s) = a at *
  generalize pre hWhole (nm s) = b at *
  generalize pre hNew (nm s) = c at *
  go_enter Tryz.func64, Tryz.ntmps64
  go_wp2_with fail
  refine h1.mono ?_
  rintro e w' ⟨rfl, rfl⟩
  cases a
  · go_wp2_with fail
    refine h2.mono ?_
    rintro e w' ⟨rfl, rfl⟩
    cases b
    · go_wp2_with fail
      refine h3.mono ?_
      rintro e w' ⟨rfl, rfl⟩
      go_wp2
      go_ret
      exact ⟨rfl, rfl⟩
    · go_wp2
      go_ret
      exact ⟨rfl, rfl⟩
  · go_wp2
    go_ret
    exact ⟨rfl, rfl⟩
/-- The name of a chunk. -/
def partN (n i c : Nat) : ByteArray := ⟨#[112, 97, 114, 116, 46]⟩ ++ n36 n ++ ⟨#[46]⟩ ++ n36 i ++ ⟨#[46]⟩ ++ n36 c
theorem size_append (a b : ByteArray) : (a ++ b).size = a.size + b.size := by simp
set_option maxRecDepth 100000 in
theorem partName_any (n i : Nat) (hn : n < 18446744073709551616) (hi : i ≤ 140737488355328) (v : Value) (l : List Nat) (w : World) (h : Seg w v l) (hb : Byts l) (hg : Glob w) :
    Calls Tryz.prog 57 #[.int .u64 n, .int .i64 i, v] w fun e w' => e = .returned (.string (partN n i (crc l))) ∧ Below w.heap.size w w' := by
  have hc : crc l < 4294967296 := crc_lt l hb
  have z1 := n36_size hn
  have z2 := n36_size (u := i) (by omega)
  have z3 := n36_size (u := crc l) (by omega)
  have hi' : IntKind.u64.wrap (i : Int) = (i : Int) := wu64 (by omega) (by omega)
  have s0 : (⟨#[46]⟩ : ByteArray).size = 1 := rfl
  have s1 : (⟨#[112, 97, 114, 116, 46]⟩ ++ n36 n : ByteArray).size ≤ 18 := by rw [size_append]; show 5 + _ ≤ _; omega
  have s2 : (⟨#[112, 97, 114, 116, 46]⟩ ++ n36 n ++ ⟨#[46]⟩ : ByteArray).size ≤ 19 := by rw [size_append]; omega
  have s3 : (⟨#[112, 97, 114, 116, 46]⟩ ++ n36 n ++ ⟨#[46]⟩ ++ n36 i : ByteArray).size ≤ 32 := by rw [size_append]; omega
  have s4 : (⟨#[112, 97, 114, 116, 46]⟩ ++ n36 n ++ ⟨#[46]⟩ ++ n36 i ++ ⟨#[46]⟩ : ByteArray).size ≤ 33 := by rw [size_append]; omega
  have HG := hide hg
  have HS := hide h
  clear h hg
  go_enter Tryz.func57, Tryz.ntmps57
  go_wp2_with fail
  refine (num36_any n hn w).mono ?_
  rintro e w1 ⟨rfl, b1⟩
  have B1 := hide b1
  clear b1
  go_wp2_with fail
  refine (num36_any i (by omega) w1).mono ?_
  rintro e w2 ⟨rfl, b2⟩
  have B2 := hide (B1.out.trans (b2.mono B1.out.size))
  clear b2 B1
  go_wp2_with fail
  refine (Sum_any v l w2 (HS.out.below B2.out) hb (HG.out.below B2.out HG.out.1)).mono ?_
  rintro e w3 ⟨rfl, rfl⟩
  have hcw : IntKind.u64.wrap (crc l : Int) = (crc l : Int) := wu64 (by omega) (by omega)
  go_wp2_with fail
  refine (num36_any (crc l) (by omega) w3).mono ?_
  rintro e w4 ⟨rfl, b4⟩
  have B4 := hide (B2.out.trans (b4.mono B2.out.size))
  clear b4 B2
  go_wp2
  go_ret
  exact ⟨rfl, B4.out⟩
/-- What a file was written with, if it is one seal. -/
def opn1 (l : List Nat) : Option (List Nat) := match rOpen l with | some x => if 8 + x.length = l.length then some x else none | none => none
def rdF (p : Pd) (s : List UInt8) : Option (List Nat) := match (pFind p s).1 with | some f => opn1 f.x | none => none
theorem num_byts {k : Nat} {s : List Nat × Bool} (h : Byts s.1) : Byts (num k s).2.1 := by
  by_cases hk : k ≤ s.1.length
  · rw [num_yes hk]; exact h.drop k
  · rw [num_no hk]; exact h
theorem rOpen_byts {l x : List Nat} (h : Byts l) (hr : rOpen l = some x) : Byts x := by
  unfold rOpen at hr
  split at hr
  · cases hr
    exact (num_byts (num_byts h)).take _
  · cases hr
theorem rdF_byts {p : Pd} {n : Nat} (ho : Ok p n) {s : List UInt8} {l : List Nat} (h : rdF p s = some l) : Byts l ∧ l.length ≤ 1048576 := by
  unfold rdF at h
  cases hf : (pFind p s).1 with
  | none => rw [hf] at h; cases h
  | some f =>
    rw [hf] at h
    have hm := (fGet_mem (pFind_some hf).2.2).1
    dsimp only at h
    unfold opn1 at h
    cases hr : rOpen f.x with
    | none => rw [hr] at h; cases h
    | some x =>
      rw [hr] at h
      dsimp only at h
      split at h
      · cases h
        have := ho.size f hm
        exact ⟨rOpen_byts (ho.byts f hm) hr, by omega⟩
      · cases h
/-- What readFile leaves. -/
def RFPost (w : World) (r : Option (List Nat)) (e : Ending) (w' : World) : Prop :=
  (∃ l v, r = some l ∧ e = .returned (.tuple #[v, .bool true]) ∧ Own w.heap.size w' v l ∧ Below w.heap.size w w') ∨ (r = none ∧ e = .returned (.tuple #[.slice none 0 0, .bool false]) ∧ Below w.heap.size w w')
set_option maxRecDepth 100000 in
theorem readFile_any {w0 w : World} {k b n : Nat} {p : Pd} (h : St w0 w k b n p) (hg : Glob w) (s : ByteArray) (hs : s.size ≤ maxLen) (r : Option (List Nat)) (hr : rdF p (nm s) = r) :
    Calls Tryz.prog 56 #[.pointer (some ⟨k, 0, none⟩), .string s] w (RFPost w r) := by
  obtain ⟨o, er, hp⟩ : ∃ o er, pFind p (nm s) = (o, er) := ⟨_, _, rfl⟩
  unfold rdF at hr
  rw [hp] at hr
  have hc := kRead h s hs o er hp
  have HO : Hid (∀ f, o = some f → Byts f.x ∧ f.x.length ≤ 1048576 ∧ er = 0) := fun f hf => by
    have h1 : (pFind p (nm s)).1 = some f := by rw [hp]; exact hf
    have h2 := pFind_some h1
    have hm := (fGet_mem h2.2.2).1
    rw [hp] at h2
    exact ⟨h.d.ok.byts f hm, h.d.ok.size f hm, h2.1⟩
  have HE : Hid (o = none → er = 23 ∨ er = 20) := fun ho => by
    subst ho
    unfold pFind at hp
    split at hp
    · cases hp; decide
    · split at hp
      · cases hp
      · cases hp; decide
  have HG := hide hg
  clear h hg hp
  go_enter Tryz.func56, Tryz.ntmps56
  go_wp2_with fail
  refine hc.mono ?_
  rintro e w1 ⟨v1, rfl, s1, h1, b1⟩
  cases o with
  | none =>
    have he := HE.out rfl
    have HR := hide (Eq.symm hr)
    obtain ⟨ao, cap, rfl, _, _, _, _⟩ := id s1
    have B1 := hide b1
    clear hc HO HE s1 h1 hr b1
    have hfd : (fData none).length = 0 := rfl
    rw [hfd]
    rcases he with rfl | rfl
    all_goals
      go_wp2
      go_ret2
      exact .inr ⟨HR.out, rfl, B1.out⟩
  | some f =>
    obtain ⟨hby, hlen, rfl⟩ := HO.out f rfl
    have ho := Open_any v1 f.x w1 s1 hby (HG.out.below b1 HG.out.1)
    have hr' : opn1 f.x = r := hr
    obtain ⟨ao, cap, rfl, _, _, _, _⟩ := id s1
    have hfd : (fData (some f)).length = f.x.length := rfl
    rw [hfd]
    have B1 := hide b1
    clear hc HO HE s1 h1 hr b1
    generalize hro : rOpen f.x = ro at *
    unfold opn1 at hr'
    rw [hro] at hr'
    go_wp2_with fail
    refine ho.mono ?_
    intro e w2 hq
    rcases hq with ⟨l, v', rfl, rfl, ow, b2⟩ | ⟨rfl, rfl, b2⟩
    · have B2 := hide (B1.out.trans (b2.mono B1.out.size))
      have OW := hide (ow.mono B1.out.size)
      dsimp only at hr'
      by_cases hl : 8 + l.length = f.x.length
      · rw [if_pos hl] at hr'
        have hl' : (8 : Int) + (l.length : Int) = (f.x.length : Int) := by omega
        clear ow b2 ho hro
        go_wp2
        go_ret2
        exact .inl ⟨l, _, hr'.symm, rfl, OW.out, B2.out⟩
      · rw [if_neg hl] at hr'
        have hl' : ¬ (8 : Int) + (l.length : Int) = (f.x.length : Int) := by omega
        clear ow b2 ho hro
        go_wp2
        go_ret2
        exact .inr ⟨hr'.symm, rfl, B2.out⟩
    · have B2 := hide (B1.out.trans (b2.mono B1.out.size))
      clear b2 ho hro
      go_wp2
      go_ret2
      exact .inr ⟨hr'.symm, rfl, B2.out⟩
end Go.Proofs.YtbfhcbihgleddaaGreatDoor
/-
  The vault's readManifest.
-/
namespace Go.Proofs.YtbfhcbihgleddaaGreatDoor
open Go.RowKit

/-- The manifest that lies under a name, if it is one, and the name is its own. -/
def rdM (p : Pd) (s : List UInt8) : Option Man :=
  if pre hWhole s then
    match rdF p s with
    | some l => if done (rMan (l, false)).2 = true ∧ (rMan (l, false)).1.n ≠ 0 ∧ s = nm (wholeN (rMan (l, false)).1.n) then some (rMan (l, false)).1 else none
    | none => none
  else none
def RMPost (w : World) (r : Option Man) (e : Ending) (w' : World) : Prop :=
  (∃ m v, r = some m ∧ e = .returned (.tuple #[.agg #[.int .u64 m.n, .int .u64 m.ep, v], .bool true]) ∧ OwnS w.heap.size w' v m.ss ∧ Below w.heap.size w w') ∨ (r = none ∧ e = .returned (.tuple #[.agg #[.int .u64 0, .int .u64 0, .slice none 0 0], .bool false]) ∧ Below w.heap.size w w')
theorem man_lt {l : List Nat} (hb : Byts l) : (rMan (l, false)).1.n < 18446744073709551616 ∧ (rMan (l, false)).1.ep < 18446744073709551616 := by
  have h1 := num_lt (k := 8) (s := (l, false)) hb
  have h2 := num_lt (k := 8) (s := (num 8 (l, false)).2) (num_byts hb)
  exact ⟨h1, h2⟩
theorem beq_string (s t : ByteArray) : (s.toList == t.toList) = decide (s = t) := by
  rw [ByteArray.toList_eq, ByteArray.toList_eq]
  by_cases h : s = t
  · subst h; simp
  · rw [decide_eq_false h]
    simp only [beq_eq_false_iff_ne, ne_eq]
    intro e; exact h (nm_inj e)

set_option maxHeartbeats 1000000 in
set_option maxRecDepth 100000 in
theorem readMan_any {w0 w : World} {k b n : Nat} {p : Pd} (h : St w0 w k b n p) (hg : Glob w) (s : ByteArray) (hs : s.size ≤ maxLen) (r : Option Man) (hr : rdM p (nm s) = r) :
    Calls Tryz.prog 55 #[.pointer (some ⟨k, 0, none⟩), .string s] w (RMPost w r) := by
  have hp := prefix_any s ⟨#[119, 104, 111, 108, 101, 46]⟩ hs (by decide)
  have e2 : nm ⟨#[119, 104, 111, 108, 101, 46]⟩ = hWhole := rfl
  rw [e2] at hp
  have bA := BoxT.new 110 w #[.int .u64 0, .int .u64 0, .slice none 0 0]
  have hb0 : Below w.heap.size w (w.alloc (.cells #[.int .u64 0, .int .u64 0, .slice none 0 0] 110)) := (Below.refl _ _).alloc (Nat.le_refl _) _
  have HS := hide (h.below hb0)
  have HG := hide (hg.below hb0 hg.1)
  have HOK := hide h.d.ok
  clear h hg e2
  unfold rdM at hr
  generalize hpw : pre hWhole (nm s) = pw at *
  obtain ⟨d0, d1, d2⟩ := bA.cells3
  have fa := bA.free
  go_enter Tryz.func55, Tryz.ntmps55
  go_wp2_with fail
  refine (hp _).mono ?_
  rintro e w1 ⟨rfl, rfl⟩
  cases pw
  · have HR := hide (Eq.symm hr)
    clear hr hp
    go_wp2
    exact bodyPost_ret (v := .tuple #[.agg #[.int .u64 0, .int .u64 0, .slice none 0 0], .bool false]) (by simp [results, Tryz.results55, go_sem, d0, d1, d2]) rfl (.inr ⟨HR.out, rfl, hb0⟩)
  · generalize hrf : rdF p (nm s) = rf at *
    have HRF := hide hrf
    have hf := readFile_any HS.out HG.out s hs rf hrf
    rw [if_pos rfl] at hr
    have HR := hide hr
    have HB0 := hide hb0
    clear hr hp hrf hb0
    go_wp2_with fail
    refine hf.mono ?_
    intro e w2 hq
    rcases hq with ⟨l, v2, rfl, rfl, ow, b2⟩ | ⟨rfl, rfl, b2⟩
    · have hl := rdF_byts HOK.out HRF.out
      obtain ⟨ao, cap, hv2, _⟩ := ow.seg (by omega)
      rw [hv2] at ow ⊢
      have hom := OpenManifest_any _ l w2 (ow.seg (by omega)) hl.1
      have hlt := man_lt hl.1
      have HR1 : Hid ((if done (rMan (l, false)).2 = true ∧ (rMan (l, false)).1.n ≠ 0 ∧ nm s = nm (wholeN (rMan (l, false)).1.n) then some (rMan (l, false)).1 else none) = r) := HR
      have B2 := hide (HB0.out.trans (b2.mono (by simp)))
      have bA2 := bA.kept (base := 0) (Kept.of_below b2) (by decide)
      clear HR HRF hf ow b2 bA d0 d1 d2 fa HB0
      generalize done (rMan (l, false)).2 = ok at *
      generalize (rMan (l, false)).1 = m at *
      go_wp2_with fail
      refine hom.mono ?_
      intro e w3 hq
      unfold OMPost at hq
      obtain ⟨v3, rfl, ow3, b3⟩ := hq
      have B3 := hide (B2.out.trans (b3.mono B2.out.size))
      have bA3 := bA2.kept (base := 0) (Kept.of_below b3) (by decide)
      have OW3 := hide (ow3.mono B2.out.size)
      have hw3 : w.heap.size < w3.heap.size := Nat.lt_of_lt_of_le bA2.lt b3.size
      obtain ⟨ao3, cap3, hv3⟩ := ow3.shape
      rw [hv3] at OW3 ⊢
      clear hom ow3 b3 bA2 B2 hv3
      cases ok
      · have HR2 := hide (Eq.symm HR1.out)
        rw [if_neg (by simp)] at HR2
        clear HR1
        obtain ⟨c0, c1, c2⟩ := bA3.cells3
        have fa4 := bA3.free
        go_wp2
        obtain ⟨hW, hx, hown⟩ := fin3 bA3 (.int .u64 0) (.int .u64 0) (.slice none 0 0) _ rfl
        obtain ⟨x0, x1, x2⟩ := (hx.alloc (.cells #[.int .u64 0, .int .u64 0, .slice ao3 0 cap3] 110)).cells3
        exact bodyPost_ret (v := .tuple #[.agg #[.int .u64 0, .int .u64 0, .slice none 0 0], .bool false]) (by simp [results, Tryz.results55, go_sem, x0, x1, x2]) rfl (.inr ⟨HR2.out, rfl, (B3.out.trans hW).alloc (Nat.le_of_lt (Nat.lt_of_lt_of_le hw3 hW.size)) _⟩)
      · obtain ⟨mn, mep, mss⟩ := m
        have hss : (if true = true then mss else []) = mss := rfl
        obtain ⟨c0, c1, c2⟩ := bA3.cells3
        have fa4 := bA3.free
        by_cases hn0 : mn = 0
        · subst hn0
          have HR2 := hide (Eq.symm HR1.out)
          rw [if_neg (by simp)] at HR2
          clear HR1
          go_wp2
          obtain ⟨hW, hx, hown⟩ := fin3 bA3 (.int .u64 0) (.int .u64 0) (.slice none 0 0) _ rfl
          obtain ⟨x0, x1, x2⟩ := (hx.alloc (.cells #[.int .u64 0, .int .u64 mep, .slice ao3 mss.length cap3] 110)).cells3
          exact bodyPost_ret (v := .tuple #[.agg #[.int .u64 0, .int .u64 0, .slice none 0 0], .bool false]) (by simp [results, Tryz.results55, go_sem, x0, x1, x2]) rfl (.inr ⟨HR2.out, rfl, (B3.out.trans hW).alloc (Nat.le_of_lt (Nat.lt_of_lt_of_le hw3 hW.size)) _⟩)
        · have hn1 : ¬ ((mn : Int) = 0) := by omega
          have bM := BoxT.new 110 w3 #[.int .u64 mn, .int .u64 mep, .slice ao3 mss.length cap3]
          have bA4 := bA3.alloc (.cells #[.int .u64 mn, .int .u64 mep, .slice ao3 mss.length cap3] 110)
          have OW4 := hide (OW3.out.alloc (.cells #[.int .u64 mn, .int .u64 mep, .slice ao3 mss.length cap3] 110))
          have B4 := hide (B3.out.alloc (Nat.le_of_lt hw3) (.cells #[.int .u64 mn, .int .u64 mep, .slice ao3 mss.length cap3] 110))
          have hwn := wholeName_any mn hlt.1
          clear OW3 B3 bA3
          go_wp2_with fail
          refine (hwn _).mono ?_
          rintro e w5 ⟨rfl, b5⟩
          have bM5 := bM.kept (base := 0) (Kept.of_below b5) (by decide)
          have bA5 := bA4.kept (base := 0) (Kept.of_below b5) (by decide)
          have OW5 := hide (OW4.out.below b5)
          have B5 := hide (B4.out.trans (b5.mono B4.out.size))
          have hbs := beq_string s (wholeN mn)
          obtain ⟨g0, g1, g2⟩ := bA5.cells3
          obtain ⟨m0, m1, m2⟩ := bM5.cells3
          have fa5 := bA5.free
          clear hwn b5 bM bA4 OW4 B4 c0 c1 c2 fa4
          by_cases he : s = wholeN mn
          · have HR2 := hide (Eq.symm HR1.out)
            rw [if_pos ⟨by simp, hn0, congrArg nm he⟩] at HR2
            rw [decide_eq_true he] at hbs
            clear HR1 he
            go_wp2
            obtain ⟨hW, hx, hown⟩ := fin3 bA5 (.int .u64 mn) (.int .u64 mep) (.slice ao3 mss.length cap3) _ rfl
            obtain ⟨x0, x1, x2⟩ := hx.cells3
            exact bodyPost_ret (v := .tuple #[.agg #[.int .u64 mn, .int .u64 mep, .slice ao3 mss.length cap3], .bool true]) (by simp [results, Tryz.results55, go_sem, x0, x1, x2]) rfl (.inl ⟨_, _, HR2.out, rfl, hown _ _ _ OW5.out, B5.out.trans hW⟩)
          · have HR2 := hide (Eq.symm HR1.out)
            rw [if_neg (fun hh => he (nm_inj hh.2.2))] at HR2
            rw [decide_eq_false he] at hbs
            clear HR1 he
            go_wp2
            obtain ⟨hW, hx, hown⟩ := fin3 bA5 (.int .u64 0) (.int .u64 0) (.slice none 0 0) _ rfl
            obtain ⟨x0, x1, x2⟩ := hx.cells3
            exact bodyPost_ret (v := .tuple #[.agg #[.int .u64 0, .int .u64 0, .slice none 0 0], .bool false]) (by simp [results, Tryz.results55, go_sem, x0, x1, x2]) rfl (.inr ⟨HR2.out, rfl, B5.out.trans hW⟩)
    · have bA2 := bA.kept (base := 0) (Kept.of_below b2) (by decide)
      obtain ⟨c0, c1, c2⟩ := bA2.cells3
      have fa2 := bA2.free
      have HR1 := hide (Eq.symm HR.out)
      have B2 := hide (HB0.out.trans (b2.mono (by simp)))
      clear HR hf b2 d0 d1 d2 fa
      go_wp2
      obtain ⟨hW, hx, hown⟩ := fin3 bA2 (.int .u64 0) (.int .u64 0) (.slice none 0 0) _ rfl
      obtain ⟨x0, x1, x2⟩ := hx.cells3
      exact bodyPost_ret (v := .tuple #[.agg #[.int .u64 0, .int .u64 0, .slice none 0 0], .bool false]) (by simp [results, Tryz.results55, go_sem, x0, x1, x2]) rfl (.inr ⟨HR1.out, rfl, B2.out.trans hW⟩)
end Go.Proofs.YtbfhcbihgleddaaGreatDoor
/-
  The vault's unpack: the parts that a chunk has.
-/
namespace Go.Proofs.YtbfhcbihgleddaaGreatDoor
open Go.RowKit

section
variable {α β : Type} {t sz t2 sz2 : Nat} {cs : α → List Value} {cs2 : β → List Value} {base : Nat} {w w' : World} {v v2 : Value} {xs : List α} {ys : List β}
theorem OwnL.drew (h : OwnL t sz cs base w v xs) : OwnL t sz cs base w.drew v xs := h
theorem OwnL.back (h : OwnL t sz cs base w v xs) (hb : ∀ g, v.ownBlock = some g → w'.heap[g]? = w.heap[g]?) : OwnL t sz cs base w' v xs := by
  refine ⟨h.1, ?_⟩
  rcases h.2 with h | ⟨g, cap, cur, rfl, h2, h3, h4⟩
  · exact .inl h
  · exact .inr ⟨g, cap, cur, rfl, h2, by rw [hb g rfl]; exact h3, h4⟩
theorem OwnL.has (h : OwnL t sz cs base w v xs) (g : Nat) (hg : v.ownBlock = some g) : ∃ cur, w.heap[g]? = some (.cells cur t (0, 0)) := by
  rcases h.2 with ⟨rfl, _⟩ | ⟨g', cap, cur, rfl, h2, h3, _⟩
  · cases hg
  · obtain rfl : g' = g := Option.some.inj hg
    exact ⟨cur, h3⟩
theorem OwnL.at (h : OwnL t sz cs base w v xs) : ∀ g, v.ownBlock = some g → base ≤ g := fun g e => (World.ownsRow.lt h g e).1
theorem OwnL.lt (h : OwnL t sz cs base w v xs) (g : Nat) (hg : v.ownBlock = some g) : g < w.heap.size := by
  obtain ⟨cur, hc⟩ := h.has g hg
  exact (Array.getElem?_eq_some_iff.1 hc).1
theorem OwnL.other (h : OwnL t sz cs base w v xs) {base2 : Nat} (h2 : OwnL t2 sz2 cs2 base2 w v2 ys) (ht : t ≠ t2) (hg : w.grownBy w' v2.ownBlock) : OwnL t sz cs base w' v xs :=
  h.back fun g e => by
    obtain ⟨cur, hc⟩ := h.has g e
    refine hg.block g (Array.getElem?_eq_some_iff.1 hc).1 fun e2 => ?_
    obtain ⟨cur2, hc2⟩ := h2.has g e2.symm
    rw [hc] at hc2
    simp at hc2
    exact ht hc2.2
theorem OwnL.bel {w0 : World} (h : Below base w0 w) (ho : OwnL t sz cs base w v xs) (hg : w.grownBy w' v.ownBlock) (hb : base ≤ w.heap.size) : Below base w0 w' :=
  ⟨hg.os.trans h.os, hg.tape.trans h.tape, hg.output.trans h.output, Nat.le_trans h.size hg.size, fun i hi => (hg.block i (by omega) (fun e => by have := ho.at i e.symm; omega)).trans (h.block i hi)⟩
end
theorem SegB.rowed {α : Type} {t sz base : Nat} {cs : α → List Value} {w w' : World} {v u : Value} {xs : List α} {l : List Nat} (h : SegB base w v l) (ho : OwnL t sz cs base w u xs) (hg : w.grownBy w' u.ownBlock) (hb : base ≤ w.heap.size) : SegB base w' v l := by
  obtain ⟨ao, cap, h1, h2, h3, h3', h4⟩ := h
  refine ⟨ao, cap, h1, h2, h3, h3', ?_⟩
  rcases h4 with h4 | ⟨b, off, h5, h6, h7⟩
  · exact .inl h4
  · exact .inr ⟨b, off, h5, h6, fun i x hi => (World.cell?_of_block (hg.block b (by omega) (fun e => by have := ho.at b e.symm; omega))).trans (h7 i x hi)⟩
theorem SegB.down {B : Nat} {w w' : World} {v : Value} {l : List Nat} (h : SegB B w v l) (hb : Below B w w') : SegB B w' v l := by
  obtain ⟨ao, cap, h1, h2, h3, h3', h4⟩ := h
  refine ⟨ao, cap, h1, h2, h3, h3', ?_⟩
  rcases h4 with h4 | ⟨b, off, h5, h6, h7⟩
  · exact .inl h4
  · exact .inr ⟨b, off, h5, h6, fun i x hi => (hb.cell (p := ⟨b, off + i, none⟩) h6).trans (h7 i x hi)⟩
/-- A slice from a place on. -/
theorem SegB.from {ao : Option Addr} {cap B : Nat} {l : List Nat} {w : World} (h : SegB B w (.slice ao l.length cap) l) (k : Nat) (hk : k ≤ l.length) :
    SegB B w (.slice (if cap = k then ao else ao.map (fun x => x.add k)) (l.length - k) (cap - k)) (l.drop k) := by
  obtain ⟨ao', cap', e, g1, g2, g3, g4⟩ := h
  cases e
  refine ⟨if cap = k then ao else ao.map (·.add k), cap - k, by simp, by simp; omega, by omega, by simp; omega, ?_⟩
  by_cases hc : cap = k
  · exact .inl (List.drop_eq_nil_of_le (by omega))
  · rcases g4 with g4 | ⟨b, off, g5, g6, g7⟩
    · exact .inl (by simp [g4])
    · refine .inr ⟨b, off + k, by rw [if_neg hc, g5]; simp [Addr.add], g6, fun i x hi => ?_⟩
      rw [List.getElem?_drop] at hi
      rw [Nat.add_assoc]; exact g7 _ x hi
/-- A part as it lies in a row. -/
structure SnV where
  s : Sn
  am : Option Addr
  cm : Nat
  ap : Option Addr
  cp : Nat
  ac : Option Addr
  cc : Nat
def SnV.cs (x : SnV) : List Value := [.int .i64 x.s.task, .int .i64 x.s.off, .int .i64 x.s.mark, .slice x.am x.s.marks.length x.cm, .slice x.ap x.s.panes.length x.cp, .slice x.ac x.s.outs.length x.cc]
def SnV.ok (base : Nat) (w : World) (x : SnV) : Prop := OwnSn base w (.slice x.am x.s.marks.length x.cm) (.slice x.ap x.s.panes.length x.cp) (.slice x.ac x.s.outs.length x.cc) x.s
theorem SnV.ok.below {base : Nat} {w w' : World} {x : SnV} (h : x.ok base w) (hb : Below w.heap.size w w') : x.ok base w' := OwnSn.below h hb
theorem SnV.ok.rowed {base base2 : Nat} {w w' : World} {x : SnV} {u : Value} {xs : List SnV} (h : x.ok base w) (ho : OwnL 27 6 SnV.cs base2 w u xs) (hg : w.grownBy w' u.ownBlock) : x.ok base w' :=
  ⟨h.m.other ho (by decide) hg, h.p.other ho (by decide) hg, h.c.other ho (by decide) hg⟩
theorem Tryz.info27 : (Tryz.prog.info? 27).map (fun i => (i.zero, i.size, i.bytes)) = some (some (.agg #[.int .i64 0, .int .i64 0, .int .i64 0, .slice none 0 0, .slice none 0 0, .slice none 0 0]), 6, 96) := by kernel_rfl
theorem num_left (k : Nat) (s : List Nat × Bool) : (num k s).2.1.length + k = s.1.length ∨ ((num k s).2.2 = true ∧ (num k s).2.1 = s.1) := by
  by_cases hk : k ≤ s.1.length
  · rw [num_yes hk]; exact .inl (by simp; omega)
  · rw [num_no hk]; exact .inr ⟨rfl, rfl⟩
theorem num_bad' (k : Nat) (s : List Nat × Bool) (h : s.2 = true) : (num k s).2.2 = true := by
  by_cases hk : k ≤ s.1.length
  · rw [num_yes hk]; exact h
  · rw [num_no hk]
theorem rOpen_len {l x : List Nat} (h : rOpen l = some x) : 8 + x.length ≤ l.length := by
  unfold rOpen at h
  split at h
  case isTrue hh =>
    cases h
    obtain ⟨h1, h2, h3, _⟩ := hh
    rw [List.length_take, Nat.min_eq_left h3]
    rcases num_left 4 (l, false) with h4 | ⟨h4, _⟩
    · rcases num_left 4 (num 4 (l, false)).2 with h5 | ⟨h5, _⟩
      · simp only at h4; omega
      · rw [h2] at h5; cases h5
    · have := num_bad' 4 _ h4
      rw [h2] at this; cases this
  case isFalse => cases h
/-- The parts that lie in bytes, one seal behind the other. -/
def unpkf : Nat → List Nat → Option (List Sn)
  | 0, _ => some []
  | f + 1, l => if l = [] then some [] else
    match rOpen l with
    | none => none
    | some x => if done (rSnap (x, false)).2 then (unpkf f (l.drop (8 + x.length))).map ((rSnap (x, false)).1 :: ·) else none
theorem unpkf_more (f : Nat) : ∀ g l, l.length ≤ f → l.length ≤ g → unpkf f l = unpkf g l := by
  induction f with
  | zero =>
    intro g l h _
    obtain rfl : l = [] := List.length_eq_zero_iff.1 (by omega)
    cases g <;> rfl
  | succ f ih =>
    intro g l h1 h2
    cases g with
    | zero =>
      obtain rfl : l = [] := List.length_eq_zero_iff.1 (by omega)
      rfl
    | succ g =>
      unfold unpkf
      split
      · rfl
      · rename_i hl
        have h0 : l.length ≠ 0 := fun e => hl (List.length_eq_zero_iff.1 e)
        cases hr : rOpen l with
        | none => rfl
        | some x =>
          simp only []
          rw [ih g (l.drop (8 + x.length)) (by rw [List.length_drop]; omega) (by rw [List.length_drop]; omega)]
def unpk (l : List Nat) : Option (List Sn) := unpkf l.length l
theorem unpk_nil : unpk [] = some [] := rfl
theorem unpk_eq {l : List Nat} (hl : l ≠ []) : unpk l = match rOpen l with
    | none => none
    | some x => if done (rSnap (x, false)).2 then (unpk (l.drop (8 + x.length))).map ((rSnap (x, false)).1 :: ·) else none := by
  have h0 : l.length ≠ 0 := fun e => hl (List.length_eq_zero_iff.1 e)
  obtain ⟨n, hn⟩ : ∃ n, l.length = n + 1 := ⟨l.length - 1, by omega⟩
  unfold unpk
  rw [hn]
  conv => lhs; unfold unpkf
  rw [if_neg hl]
  cases hr : rOpen l with
  | none => rfl
  | some x =>
    simp only []
    rw [unpkf_more n (l.drop (8 + x.length)).length (l.drop (8 + x.length)) (by rw [List.length_drop]; omega) (Nat.le_refl _)]
theorem unpk_no {l : List Nat} (hl : l ≠ []) (h : rOpen l = none) : unpk l = none := by rw [unpk_eq hl, h]
theorem unpk_yes {l x : List Nat} (hl : l ≠ []) (h : rOpen l = some x) : unpk l = if done (rSnap (x, false)).2 then (unpk (l.drop (8 + x.length))).map ((rSnap (x, false)).1 :: ·) else none := by
  rw [unpk_eq hl, h]
/-- What unpack leaves. -/
def UPost (w : World) (r : Option (List Sn)) (e : Ending) (w' : World) : Prop :=
  (∃ xs v', r = some (xs.map SnV.s) ∧ xs ≠ [] ∧ e = .returned (.tuple #[v', .bool true]) ∧ OwnL 27 6 SnV.cs w.heap.size w' v' xs ∧ (∀ x ∈ xs, x.ok w.heap.size w') ∧ Below w.heap.size w w') ∨ ((r = none ∨ r = some []) ∧ e = .returned (.tuple #[.slice none 0 0, .bool false]) ∧ Below w.heap.size w w')
structure UpI (w wr : World) (l l' : List Nat) (v0 v4 : Value) (acc : List SnV) : Prop where
  seg : SegB w.heap.size wr v0 l'
  byts : Byts l'
  own : OwnL 27 6 SnV.cs w.heap.size wr v4 acc
  oks : ∀ x ∈ acc, x.ok w.heap.size wr
  eq : unpk l = (unpk l').map (acc.map SnV.s ++ ·)
  len : 8 * acc.length + l'.length ≤ l.length
  bel : Below w.heap.size w wr
  nil : acc = [] → v4 = .slice none 0 0
theorem SegB.at {B : Nat} {w : World} {v : Value} {l : List Nat} (h : SegB B w v l) (hB : B ≤ w.heap.size) : Seg w v l := by
  obtain ⟨ao, cap, h1, h2, h3, h3', h4⟩ := h
  exact ⟨ao, cap, h1, h2, h3, h3', h4.imp id fun ⟨b, off, h5, h6, h7⟩ => ⟨b, off, h5, by omega, h7⟩⟩

set_option maxHeartbeats 2000000 in
set_option maxRecDepth 100000 in
theorem unpack_any (v : Value) (l : List Nat) (w : World) (h : Seg w v l) (hb : Byts l) (hg : Glob w) (hl : l.length ≤ 2000000) : Calls Tryz.prog 48 #[v] w (UPost w (unpk l)) := by
  have H0 : Hid (UpI w w l l v (.slice none 0 0) []) := ⟨h.segB, hb, OwnL.nil _ _ _ _ _, (fun x hx => by cases hx), (by cases unpk l <;> simp), by simp, Below.refl _ _, fun _ => rfl⟩
  have HG := hide hg
  clear h hb hg
  generalize hu : unpk l = r at *
  have HU := hide hu
  clear hu
  go_enter Tryz.func48, Tryz.ntmps48
  go_wp2
  go_loopw [0, 4] (fun v0 v4 wr => ∃ l' acc, Hid (UpI w wr l l' v0 v4 acc)) (fun v0 _ _ => match v0 with | .slice _ n _ => n | _ => 0)
  case atStart => exact ⟨l, [], H0⟩
  case round =>
    obtain ⟨l', acc, HI⟩ := hrel
    have hlen := HI.out.len
    have hgr : Glob wr := HG.out.below HI.out.bel HG.out.1
    obtain ⟨ao, cap, hv0, q1, q2, q3, q4⟩ := HI.out.seg
    clear q4
    subst hv0
    obtain ⟨a4, c4, hv4⟩ := HI.out.own.shape
    subst hv4
    by_cases hl' : l' = []
    · subst hl'
      clear H0
      have hbe := hide HI.out.bel
      have HR : Hid (r = some (acc.map SnV.s)) := by
        show _ = _
        rw [← HU.out, HI.out.eq, unpk_nil]; simp
      by_cases ha : acc = []
      · subst ha
        have hv4 := HI.out.nil rfl
        cases hv4
        go_wp2
        go_ret2
        exact .inr ⟨.inr HR.out, rfl, hbe.out⟩
      · have hal : 0 < acc.length := List.length_pos_iff.2 ha
        go_wp2
        go_ret2
        exact .inl ⟨acc, _, HR.out, ha, rfl, HI.out.own, HI.out.oks, hbe.out⟩
    · have hpos : 0 < l'.length := List.length_pos_iff.2 hl'
      have ho := Open_any _ l' wr (HI.out.seg.at HI.out.bel.size) HI.out.byts hgr
      generalize hro : rOpen l' = ro at *
      have HRO := hide hro
      clear hro H0
      go_wp2_with fail
      refine ho.mono ?_
      intro e w1 hq
      rcases hq with ⟨x, v5, rfl, rfl, ow, b1⟩ | ⟨rfl, rfl, b1⟩
      · have hxl := rOpen_len HRO.out
        have hx1 : x.length ≤ 140737488355328 := by omega
        have hxb := rOpen_byts HI.out.byts HRO.out
        have hsn := OpenSnap_any v5 x w1 (ow.seg hx1) hxb
        obtain ⟨a5, c5, hv5, _⟩ := ow.seg hx1
        subst hv5
        have hb1 := hide (HI.out.bel.trans (b1.mono HI.out.bel.size))
        have HS1 := hide (HI.out.seg.down (b1.mono HI.out.bel.size))
        have HO1 := hide (HI.out.own.below b1)
        have HX1 : Hid (∀ y ∈ acc, y.ok w.heap.size w1) := fun y hy => (HI.out.oks y hy).below b1
        have HUY := hide (unpk_yes hl' HRO.out)
        have HRX := hide (rfl : rSnap (x, false) = rSnap (x, false))
        generalize rSnap (x, false) = rs at hsn HUY
        clear ho b1 ow
        go_wp2_with fail
        refine hsn.mono ?_
        rintro e w2 ⟨vm, vp, vc, rfl, os, b2⟩
        obtain ⟨am, cm, rfl⟩ := os.m.shape
        obtain ⟨ap, cp, rfl⟩ := os.p.shape
        obtain ⟨ac, cc, rfl⟩ := os.c.shape
        have hb2 := hide (hb1.out.trans (b2.mono hb1.out.size))
        cases hdn : done rs.2
        · have hoe : oEr rs = 10 := by unfold oEr; rw [hdn]; rfl
          rw [hoe]
          have HR : Hid (r = none) := by
            show _ = _
            rw [← HU.out, HI.out.eq, HUY.out, hdn]; rfl
          clear hsn os b2 hb1 hdn
          go_wp2
          go_ret2
          exact .inr ⟨.inl HR.out, rfl, hb2.out.alloc hb2.out.size _⟩
        · have hoe : oEr rs = 0 := by unfold oEr; rw [hdn]; rfl
          have hos : oSn rs = rs.1 := by unfold oSn; rw [hdn]; rfl
          rw [hos] at os
          rw [hoe, hos]
          obtain ⟨y, sy⟩ := rs
          simp only at os ⊢
          have HE : Hid (r = (unpk (l'.drop (8 + x.length))).map ((acc.map SnV.s ++ [y]) ++ ·)) := by
            show _ = _
            rw [← HU.out, HI.out.eq, HUY.out, hdn]
            cases unpk (l'.drop (8 + x.length)) <;> simp
          have HSN : Hid (SnV.ok w.heap.size w2 ⟨y, am, cm, ap, cp, ac, cc⟩) := OwnSn.mono os hb1.out.size
          have HS2 := hide (HS1.out.down (b2.mono hb1.out.size))
          have HO2 := hide (HO1.out.below b2)
          have HX2 : Hid (∀ y ∈ acc, y.ok w.heap.size w2) := fun z hz => (HX1.out z hz).below b2
          have hla : acc.length ≤ 1000000 := by omega
          have hsz2 := hb2.out.size
          clear hsn os b2 hb1 hdn HS1 HO1 HX1 hoe hos HUY
          have ba : Below w2.heap.size w2 ((w2.alloc (.cells #[.int .i64 y.task, .int .i64 y.off, .int .i64 y.mark, .slice am y.marks.length cm, .slice ap y.panes.length cp, .slice ac y.outs.length cc] 27)).alloc (.cells #[.int .i64 y.task, .int .i64 y.off, .int .i64 y.mark, .slice am y.marks.length cm, .slice ap y.panes.length cp, .slice ac y.outs.length cc] 27)) := ((Below.refl _ _).alloc (Nat.le_refl _) _).alloc (by simp) _
          have BA := hide ba
          clear ba
          go_wp2_with (first | (at_builtin; refine app_ownL Tryz.info27 Tryz.underlying30 rfl (by decide) (by decide) (fun _ => rfl) (fun z u hu => by simp [SnV.cs] at hu; rcases hu with rfl | rfl | rfl | rfl | rfl | rfl <;> rfl) rfl _ _ rfl w.heap.size _ acc rfl (HO2.out.below BA.out) ⟨w2.heap.size + 1, 0, none⟩ 1 ⟨y, am, cm, ap, cp, ac, cc⟩ rfl (fun j u hu => by match j, hu with | 0, hu | 1, hu | 2, hu | 3, hu | 4, hu | 5, hu => simp [SnV.cs] at hu; subst hu; simp [Addr.add]) hla (by simp; omega) ?_) | fail)
          intro v3 w3 ho3 hg3
          have HN : Hid (UpI w w3 l (l'.drop (8 + x.length)) (.slice (if cap = 8 + x.length then ao else ao.map (fun z => z.add (8 + x.length))) (l'.length - (8 + x.length)) (cap - (8 + x.length))) v3 (acc ++ [⟨y, am, cm, ap, cp, ac, cc⟩])) := by
            have ho := HO2.out.below BA.out
            have hbb : w.heap.size ≤ ((w2.alloc (.cells #[.int .i64 y.task, .int .i64 y.off, .int .i64 y.mark, .slice am y.marks.length cm, .slice ap y.panes.length cp, .slice ac y.outs.length cc] 27)).alloc (.cells #[.int .i64 y.task, .int .i64 y.off, .int .i64 y.mark, .slice am y.marks.length cm, .slice ap y.panes.length cp, .slice ac y.outs.length cc] 27)).heap.size := Nat.le_trans hsz2 BA.out.size
            refine ⟨((HS2.out.down (BA.out.mono hsz2)).rowed ho hg3 hbb).from _ hxl, HI.out.byts.drop _, ho3, ?_, ?_, ?_, OwnL.bel (hb2.out.trans (BA.out.mono hsz2)) ho hg3 hbb, fun e => by simp at e⟩
            · intro z hz
              rcases List.mem_append.1 hz with hz | hz
              · exact ((HX2.out z hz).below BA.out).rowed ho hg3
              · rcases List.mem_singleton.1 hz with rfl
                exact (HSN.out.below BA.out).rowed ho hg3
            · rw [HU.out, HE.out]; simp
            · simp only [List.length_append, List.length_cons, List.length_nil, List.length_drop]; omega
          clear ho3 hg3 HO2 HX2 HS2 HSN HE
          go_wp2
          go_roundw
          case rel => exact ⟨_, _, HN⟩
          case measure => show l'.length - (8 + x.length) < l'.length; omega
      · have hbe := hide (HI.out.bel.trans (b1.mono HI.out.bel.size))
        have HR : Hid (r = none) := by
          show _ = _
          rw [← HU.out, HI.out.eq, unpk_no hl' HRO.out]; rfl
        clear ho b1
        go_wp2
        go_ret2
        exact .inr ⟨.inl HR.out, rfl, hbe.out⟩
end Go.Proofs.YtbfhcbihgleddaaGreatDoor
