/-
  Texts of the vault, in build order: VRound, VPutC, VFindX, VTornP, VTornW, VOpenX.
-/
import Derived.Test.YtbfhcbihgleddaaGreatDoorM33
import Derived.Test.YtbfhcbihgleddaaGreatDoorM30
import Derived.Test.YtbfhcbihgleddaaGreatDoorM28
import Derived.Test.YtbfhcbihgleddaaGreatDoorM35
/-
  What was laid is found again: seals, parts, manifests.
-/
namespace Go.Proofs.YtbfhcbihgleddaaGreatDoor
open Go.RowKit

theorem opn1_sealed {l : List Nat} (hb : Byts l) (hl : l.length ≤ 1048576) : opn1 (sealed l) = some l := by
  have h := rOpen_sealed l [] hb hl
  rw [List.append_nil] at h
  unfold opn1
  rw [h]
  simp only []
  rw [if_pos (by rw [sealed_len]; omega)]
theorem opn1_cut {l : List Nat} {k : Nat} (hb : Byts l) (hl : l.length ≤ 1048576) (hk : k < (sealed l).length) : opn1 ((sealed l).take k) = none := by
  unfold opn1
  rw [rOpen_cut l k hb hl hk]
/-- A byte that was turned: nothing is told. -/
theorem opn1_turned {l : List Nat} {k y x : Nat} (hb : Byts l) (hl : l.length ≤ 1048576) (hx : (sealed l)[k]? = some x) (hy : y < 256) (hne : y ≠ x) : opn1 ((sealed l).set k y) = none := by
  by_cases h4 : 4 ≤ k
  · unfold opn1
    rw [rOpen_turned l k y x hb hl h4 hx hy hne]
  · have e : (sealed l).set k y = (be 4 l.length).set k y ++ (be 4 (crc l) ++ l) := by
      unfold sealed
      rw [List.set_append_left _ _ (by rw [be_length]; omega)]
    have hlen : ((be 4 l.length).set k y).length = 4 := by simp [be_length]
    have hbs : Byts ((be 4 l.length).set k y) := by
      intro i z hz
      rw [List.getElem?_set] at hz
      split at hz
      · split at hz
        · simp at hz; omega
        · cases hz
      · exact Byts.be _ _ i z hz
    have hvl : val ((be 4 l.length).set k y) < 4294967296 := by
      have := val_lt _ hbs 4 (by omega)
      rw [List.take_of_length_le (by omega)] at this
      exact this
    have hbe := be_val _ hbs
    rw [hlen] at hbe
    have hx' : (be 4 l.length)[k]? = some x := by
      have h2 := hx
      unfold sealed at h2
      rw [List.getElem?_append_left (by rw [be_length]; omega)] at h2
      exact h2
    have hk : k < (be 4 l.length).length := by rw [be_length]; omega
    have hvne : val ((be 4 l.length).set k y) ≠ l.length := by
      intro h
      rw [h] at hbe
      have h3 : ((be 4 l.length).set k y)[k]? = some y := by rw [List.getElem?_set_self hk]
      rw [← hbe, hx'] at h3
      exact hne (Option.some.inj h3).symm
    unfold opn1
    rw [e, ← hbe, rOpen_parts _ _ _ hvl (crc_lt l hb)]
    split
    · rename_i z hz
      split at hz
      · rename_i hc
        cases hz
        rw [if_neg]
        rw [List.length_take, List.length_append, List.length_append, be_length, be_length]
        omega
      · cases hz
    · rfl
theorem sOut_ok {s : Sn} (h : sEr s = 0) : s.big = false ∧ s.form = true ∧ sOut s = snb s := by
  unfold sEr at h
  unfold sOut
  cases hb : s.big with
  | true => rw [hb] at h; simp at h
  | false =>
    rw [hb] at h
    cases hf : s.form with
    | true => exact ⟨rfl, rfl, by simp⟩
    | false => rw [hf] at h; simp at h
/-- The parts that were packed come out again. -/
theorem unpk_parts (ss : List Sn) (h : ∀ s ∈ ss, sEr s = 0 ∧ s.ok) : unpk (ss.flatMap fun s => sealed (sOut s)) = some ss := by
  induction ss with
  | nil => exact unpk_nil
  | cons s ss ih =>
    obtain ⟨h0, hok⟩ := h s (by simp)
    obtain ⟨hb, hf, ho⟩ := sOut_ok h0
    have hl := sOut_len s
    have ho2 : rOpen (sealed (sOut s) ++ ss.flatMap fun s => sealed (sOut s)) = some (sOut s) := rOpen_sealed _ _ (sOut_byts s) (by omega)
    have hr := rSnap_of s hb hf hok []
    rw [List.append_nil] at hr
    have hne : sealed (sOut s) ++ (ss.flatMap fun s => sealed (sOut s)) ≠ [] := fun e => by
      have := congrArg List.length e
      rw [List.length_append, sealed_len] at this
      simp at this
    rw [List.flatMap_cons, unpk_yes hne ho2]
    rw [ho, hr, if_pos (show done (s, ([] : List Nat), false).2 = true from rfl), ← ho, show 8 + (sOut s).length = (sealed (sOut s)).length by rw [sealed_len]; omega, List.drop_left, ih fun t ht => h t (List.mem_cons_of_mem _ ht)]
    rfl
theorem upOk_parts (ss : List Sn) (h : ∀ s ∈ ss, sEr s = 0 ∧ s.ok) (h0 : ss ≠ []) : upOk (ss.flatMap fun s => sealed (sOut s)) = true := by
  unfold upOk
  rw [unpk_parts ss h]
  match ss, h0 with
  | _ :: _, _ => rfl
theorem rdF_of {p : Pd} (hl : p.left ≠ 0) {s : List UInt8} {f : Fi} (hg : fGet s p.l = some f) : rdF p s = opn1 f.x := by
  unfold rdF pFind
  rw [if_neg hl, hg]
theorem rdF_none {p : Pd} {s : List UInt8} (hg : fGet s p.l = none) : rdF p s = none := by
  unfold rdF pFind
  rw [hg]
  split <;> rename_i h <;> split at h <;> first | rfl | cases h
theorem chks_own (p : Pd) (n : Nat) : ∀ (cs : List (List Nat)) (i : Nat), (∀ j c, cs[j]? = some c → rdF p (nm (partN n (i + j) (crc c))) = some c ∧ upOk c = true) → chks p n i (pnames n i cs) = some cs := by
  intro cs
  induction cs with
  | nil => intro i _; rfl
  | cons c cs ih =>
    intro i h
    obtain ⟨h1, h2⟩ := h 0 c rfl
    have h3 := ih (i + 1) fun j d hd => by
      have := h (j + 1) d (by simpa using hd)
      rwa [show i + 1 + j = i + (j + 1) by omega]
    rw [Nat.add_zero] at h1
    show chk1 n i (partN n i (crc c)) (rdF p (nm (partN n i (crc c)))) (chks p n (i + 1) (pnames n (i + 1) cs)) = _
    rw [h1, h3]
    unfold chk1
    simp only []
    rw [if_pos ⟨trivial, h2⟩]
    rfl
theorem pre_whole (n : Nat) : pre hWhole (nm (wholeN n)) = true := by
  unfold wholeN
  rw [nm_app]
  rfl
/-- A snapshot whose files lie on the disk as they were laid is found. -/
theorem findS_own {p : Pd} {n ep : Nat} {cs : List (List Nat)} (h0 : 0 < n) (hn : n < 18446744073709551616) (hep : ep < 18446744073709551616) (hf : mfits (pnames n 0 cs) = true) (hm : rdF p (nm (wholeN n)) = some (mOut n ep (pnames n 0 cs))) (hc : ∀ j c, cs[j]? = some c → rdF p (nm (partN n j (crc c))) = some c ∧ upOk c = true) : findS p (nm (wholeN n)) = some (newS n ep cs) := by
  have hr := rMan_of (n : Int) (ep : Int) (pnames n 0 cs) [] ⟨by omega, by omega⟩ ⟨by omega, by omega⟩ hf
  rw [List.append_nil] at hr
  have hM : rdM p (nm (wholeN n)) = some ⟨n, ep, pnames n 0 cs⟩ := by
    unfold rdM
    rw [if_pos (pre_whole n), hm]
    simp only []
    rw [mOut, if_pos hf, hr]
    simp only [Int.toNat_natCast]
    rw [if_pos ⟨rfl, by omega, trivial⟩]
  unfold findS
  rw [hM]
  simp only []
  rw [chks_own p n cs 0 fun j c h => by rw [Nat.zero_add]; exact hc j c h]
  rfl
end Go.Proofs.YtbfhcbihgleddaaGreatDoor
/-
  A Put that has room, of snapshots of at most one chunk each.
-/
namespace Go.Proofs.YtbfhcbihgleddaaGreatDoor
open Go.RowKit

/-- A snapshot of at most one chunk. -/
structure One (x : Sp) : Prop where
  pos : 0 < x.n
  lt : x.n < 18446744073709551616
  ep : x.ep < 18446744073709551616
  len : x.chunks.length ≤ 1
  parts : x.parts = x.chunks.map fun c => pt1 c x.n
  ck : ∀ c ∈ x.chunks, Byts c ∧ (sealed c).length ≤ 1048576
def fW (x : Sp) : Fi := ⟨nm (wholeN x.n), sealed (mOut x.n x.ep x.parts), (sealed (mOut x.n x.ep x.parts)).length⟩
def fP (x : Sp) : List Fi := x.chunks.map fun c => ⟨nm (pt1 c x.n), sealed c, (sealed c).length⟩
def FX (l : List Sp) : List Fi := l.flatMap fun x => fW x :: fP x
theorem FX_app (a b : List Sp) : FX (a ++ b) = FX a ++ FX b := List.flatMap_append
theorem One.cases {x : Sp} (h : One x) : (x.chunks = [] ∧ x.parts = []) ∨ ∃ c, x.chunks = [c] ∧ x.parts = [pt1 c x.n] ∧ Byts c ∧ (sealed c).length ≤ 1048576 := by
  have hp := h.parts
  have hl := h.len
  have hc := h.ck
  match hx : x.chunks, hl with
  | [], _ => rw [hx] at hp; exact .inl ⟨rfl, hp⟩
  | [c], _ => rw [hx] at hp hc; exact .inr ⟨c, rfl, hp, hc c (by simp)⟩
theorem One.fits {x : Sp} (h : One x) : mfits x.parts = true := by
  rcases h.cases with ⟨_, e⟩ | ⟨c, _, e, hb, _⟩
  · rw [e]; rfl
  · rw [e]; exact mfits1 hb h.lt
theorem One.man {x : Sp} (h : One x) : (sealed (mOut x.n x.ep x.parts)).length ≤ 100 := by
  rw [sealed_len, mOut, if_pos h.fits]
  unfold manb
  rcases h.cases with ⟨_, e⟩ | ⟨c, _, e, hb, _⟩
  · rw [e]
    simp [be_length, namesb]
  · rw [e]
    have := (pt1_size hb h.lt).1
    have hsb : (sb (pt1 c x.n)).length = (pt1 c x.n).size := by simp [sb]
    simp [be_length, namesb, nameb, hsb]
    omega
theorem mem_FX {l : List Sp} {s : List UInt8} : s ∈ (FX l).map Fi.n ↔ ∃ x ∈ l, s = nm (wholeN x.n) ∨ ∃ c ∈ x.chunks, s = nm (pt1 c x.n) := by
  unfold FX fP
  simp only [List.mem_map, List.mem_flatMap, List.mem_cons]
  constructor
  · rintro ⟨f, ⟨x, hx, rfl | ⟨c, hc, rfl⟩⟩, rfl⟩
    · exact ⟨x, hx, .inl rfl⟩
    · exact ⟨x, hx, .inr ⟨c, hc, rfl⟩⟩
  · rintro ⟨x, hx, rfl | ⟨c, hc, rfl⟩⟩
    · exact ⟨fW x, ⟨x, hx, .inl rfl⟩, rfl⟩
    · exact ⟨_, ⟨x, hx, .inr ⟨c, hc, rfl⟩⟩, rfl⟩
theorem fls_FX {l : List Sp} (h : ∀ x ∈ l, One x) : (FX l).map Fi.n = (flsS l).map nm := by
  induction l with
  | nil => rfl
  | cons x l ih =>
    have hx := h x (by simp)
    have := ih fun y hy => h y (by simp [hy])
    unfold FX flsS at *
    rw [List.flatMap_cons, List.flatMap_cons, List.map_append, List.map_append, this, List.map_cons, List.map_cons, hx.parts]
    unfold fP
    rw [List.map_map, List.map_map]
    rfl
theorem newest_ltS {xs : List Sp} {n : Nat} (h0 : 0 < n) (hlt : ∀ x ∈ xs, x.n < n) : ¬ n ≤ newestS xs := by
  unfold newestS
  cases h : xs.getLast? with
  | none => simp; omega
  | some x =>
    have := hlt x (List.mem_of_getLast? h)
    simp; omega
theorem stores1 {p : Pd} {F : List Fi} {x : Sp} (hx : One x) (h : Has p F) (hn : ∀ c ∈ x.chunks, nm (pt1 c x.n) ∉ F.map Fi.n) (hr : (fSum F : Int) + fSum (fP x) ≤ p.room) : ∃ p1, pStores p [] x.parts x.chunks = (p1, 0, x.parts) ∧ Has p1 (fP x ++ F) ∧ p1.room = p.room := by
  rcases hx.cases with ⟨e1, e2⟩ | ⟨c, e1, e2, hb, hl⟩
  · unfold fP
    rw [e1, e2]
    exact ⟨p, rfl, h, rfl⟩
  · unfold fP at *
    rw [e1] at hn hr ⊢
    rw [e2]
    have hs : fSum [(⟨nm (pt1 c x.n), sealed c, (sealed c).length⟩ : Fi)] = (sealed c).length := by simp [fSum]
    rw [List.map_cons, List.map_nil, hs] at hr
    obtain ⟨p1, g1, g2, g3⟩ := h.store (s := pt1 c x.n) (c := c) (hn c (by simp)) (ok_p hb hx.lt) hr hl
    refine ⟨p1, ?_, g2, g3⟩
    simp only [pStores, g1]
    simp
/-- A Put that has room. -/
theorem put_one {p : Pd} {xs : List Sp} {x : Sp} {kp : Nat} (h : Has p (FX xs)) (hxs : ∀ y ∈ xs, One y) (hx : One x) (hlt : ∀ y ∈ xs, y.n < x.n) (hr : (fSum (FX xs) : Int) + fSum (FX [x]) ≤ p.room) :
    ∃ p', pEnd kp xs x (pLay x p []) = (p', 0, (xs ++ [x]).drop (xs.length + 1 - kp), []) ∧ Has p' (FX ((xs ++ [x]).drop (xs.length + 1 - kp))) ∧ p'.room = p.room := by
  have hsum : fSum (FX [x]) = (sealed (mOut x.n x.ep x.parts)).length + fSum (fP x) := by
    show fSum (fW x :: fP x ++ []) = _
    rw [List.append_nil]
    simp [fSum, fW]
  have hml := hx.man
  have hp1 : ∀ c ∈ x.chunks, nm (pt1 c x.n) ∉ (FX xs).map Fi.n := fun c hc hm => by
    obtain ⟨y, hy, e | ⟨d, hd, e⟩⟩ := mem_FX.1 hm
    · exact w_ne_p e.symm
    · have := hlt y hy
      rw [(partN_inj e).1] at this
      omega
  obtain ⟨p1, e1, h1, r1⟩ := stores1 hx h hp1 (by omega)
  have hs1 : fSum (fP x ++ FX xs) = fSum (fP x) + fSum (FX xs) := by simp [fSum]
  have hf1 : nm (freshN x.n) ∉ (fP x ++ FX xs).map Fi.n := fun hm => by
    rw [List.map_append] at hm
    rcases List.mem_append.1 hm with hm | hm
    · unfold fP at hm
      rw [List.map_map] at hm
      obtain ⟨c, hc, e⟩ := List.mem_map.1 hm
      exact f_ne_p e.symm
    · obtain ⟨y, hy, e | ⟨d, hd, e⟩⟩ := mem_FX.1 hm
      · exact f_ne_w e
      · exact f_ne_p e
  obtain ⟨p2, e2, h2, r2⟩ := h1.store (s := freshN x.n) (c := mOut x.n x.ep x.parts) hf1 (ok_f hx.lt) (by rw [r1, hs1]; omega) (by omega)
  have hw1 : nm (wholeN x.n) ∉ (fP x ++ FX xs).map Fi.n := fun hm => by
    rw [List.map_append] at hm
    rcases List.mem_append.1 hm with hm | hm
    · unfold fP at hm
      rw [List.map_map] at hm
      obtain ⟨c, hc, e⟩ := List.mem_map.1 hm
      exact w_ne_p e.symm
    · obtain ⟨y, hy, e | ⟨d, hd, e⟩⟩ := mem_FX.1 hm
      · have := hlt y hy
        rw [wholeN_inj e] at this
        omega
      · exact w_ne_p e
  obtain ⟨p3, e3, h3, r3⟩ := h2.rename hw1 (ok_w hx.lt)
  have hlay : pLay x p [] = (p3, 0, x.parts ++ [freshN x.n]) := by
    unfold pLay
    rw [if_pos (show mEr x.parts = 0 by unfold mEr; rw [hx.fits]; rfl), e1]
    simp only [if_true]
    unfold pLay2
    rw [e2]
    simp only [if_true, e3]
  have hperm : (fW x :: (fP x ++ FX xs)).Perm (FX ((xs ++ [x]).take (xs.length + 1 - kp)) ++ FX ((xs ++ [x]).drop (xs.length + 1 - kp))) := by
    rw [← FX_app, List.take_append_drop, FX_app]
    have : FX [x] = fW x :: fP x := by show fW x :: fP x ++ [] = _; rw [List.append_nil]
    rw [this]
    exact List.perm_append_comm (l₁ := fW x :: fP x)
  have hall : ∀ y ∈ xs ++ [x], One y := fun y hy => by
    rcases List.mem_append.1 hy with hy | hy
    · exact hxs y hy
    · rcases List.mem_singleton.1 hy with rfl; exact hx
  obtain ⟨p4, e4, h4, r4⟩ := Has.tidy (flsS ((xs ++ [x]).take (xs.length + 1 - kp))) (Has.re h3 hperm) (fls_FX fun y hy => hall y (List.mem_of_mem_take hy))
  refine ⟨p4, ?_, h4, by rw [r4, r3, r2, r1]⟩
  rw [hlay]
  unfold pEnd
  rw [if_pos rfl, e4]
end Go.Proofs.YtbfhcbihgleddaaGreatDoor
/-
  What Open finds on a disk that has just the files of some snapshots: these.
-/
namespace Go.Proofs.YtbfhcbihgleddaaGreatDoor
open Go.RowKit

theorem One.new {x : Sp} (h : One x) : newS x.n x.ep x.chunks = x := by
  have e : pnames x.n 0 x.chunks = x.parts := by
    rcases h.cases with ⟨e1, e2⟩ | ⟨c, e1, e2, _⟩
    · rw [e1, e2]; rfl
    · rw [e1, e2]; rfl
  unfold newS
  rw [e]
theorem pre_part (n i c : Nat) : pre hWhole (nm (partN n i c)) = false := by
  cases h : pre hWhole (nm (partN n i c)) with
  | false => rfl
  | true =>
    unfold pre at h
    have h2 := congrArg List.head? (beq_iff_eq.1 h)
    have h3 := head_p n i c
    cases hl : nm (partN n i c) with
    | nil => rw [hl] at h3; cases h3
    | cons a r =>
      rw [hl] at h2 h3
      have h4 : a = 112 := by simpa using h3
      subst h4
      simp [hWhole] at h2
theorem findS_part (p : Pd) (n i c : Nat) : findS p (nm (partN n i c)) = none := by
  unfold findS rdM
  rw [pre_part]
  rfl
theorem find_FX {p : Pd} {xs : List Sp} {x : Sp} (h : Has p (FX xs)) (hx : x ∈ xs) (ho : One x) (hu : ∀ c ∈ x.chunks, upOk c = true) : findS p (nm (wholeN x.n)) = some x := by
  have hl : p.left ≠ 0 := by rw [h.left]; decide
  have hm1 := ho.man
  have hin : ∀ f ∈ fW x :: fP x, f ∈ FX xs := fun f hf => List.mem_flatMap.2 ⟨x, hx, hf⟩
  have hnew := ho.new
  have hpp : pnames x.n 0 x.chunks = x.parts := congrArg Sp.parts hnew
  have hr : rdF p (nm (wholeN x.n)) = some (mOut x.n x.ep (pnames x.n 0 x.chunks)) := by
    rw [rdF_of hl (show fGet (nm (wholeN x.n)) p.l = some (fW x) from h.get (f := fW x) (hin _ (by simp))), hpp]
    have hmb : Byts (mOut (x.n : Int) x.ep x.parts) := by rw [mOut, if_pos ho.fits]; exact manb_byts _ _ _ ho.fits
    have hml : (mOut (x.n : Int) x.ep x.parts).length ≤ 1048576 := by rw [sealed_len] at hm1; omega
    exact opn1_sealed hmb hml
  have := findS_own ho.pos ho.lt ho.ep (by rw [hpp]; exact ho.fits) hr (fun j c hc => ?_)
  · rw [this, hnew]
  · have hcm := List.mem_of_getElem? hc
    have hj : j = 0 := by
      have h1 := (List.getElem?_eq_some_iff.1 hc).1
      have h2 := ho.len
      omega
    subst hj
    obtain ⟨hb, hl2⟩ := ho.ck c hcm
    refine ⟨?_, hu c hcm⟩
    rw [rdF_of hl (show fGet (nm (partN x.n 0 (crc c))) p.l = some ⟨nm (pt1 c x.n), sealed c, (sealed c).length⟩ from h.get (f := ⟨nm (pt1 c x.n), sealed c, (sealed c).length⟩) (hin _ (List.mem_cons_of_mem _ (List.mem_map.2 ⟨c, hcm, rfl⟩))))]
    rw [sealed_len] at hl2
    exact opn1_sealed hb (by omega)
theorem filter_FX {p : Pd} {xs : List Sp} (h : Has p (FX xs)) (ho : ∀ x ∈ xs, One x) (hu : ∀ x ∈ xs, ∀ c ∈ x.chunks, upOk c = true) : ∀ l : List Sp, (∀ x ∈ l, x ∈ xs) → (FX l).filterMap (fun f => findS p f.n) = l := by
  intro l
  induction l with
  | nil => intro _; rfl
  | cons x l ih =>
    intro hl
    have hx := hl x (by simp)
    have h1 : FX (x :: l) = fW x :: (fP x ++ FX l) := rfl
    have h2 : (fP x).filterMap (fun f => findS p f.n) = [] := by
      unfold fP
      rw [List.filterMap_map]
      refine List.filterMap_eq_nil_iff.2 fun c hc => ?_
      exact findS_part p x.n 0 (crc c)
    rw [h1, List.filterMap_cons, show findS p (fW x).n = some x from find_FX h hx (ho x hx) (hu x hx)]
    simp only []
    rw [List.filterMap_append, h2, List.nil_append, ih fun y hy => hl y (by simp [hy])]
theorem found_FX {p : Pd} {xs : List Sp} (h : Has p (FX xs)) (ho : ∀ x ∈ xs, One x) (hu : ∀ x ∈ xs, ∀ c ∈ x.chunks, upOk c = true) : (foundS p ((p.l.map Fi.n).map mkS)).Perm xs := by
  unfold foundS
  rw [List.map_map, List.filterMap_map]
  have e : ((fun s => findS p (nm s)) ∘ (mkS ∘ Fi.n)) = fun f : Fi => findS p f.n := by
    funext f
    show findS p (nm (mkS f.n)) = _
    rw [show nm (mkS f.n) = f.n from nm_ba _]
  rw [e]
  have := h.perm.filterMap (fun f => findS p f.n)
  rw [filter_FX h ho hu xs fun x hx => hx] at this
  exact this
end Go.Proofs.YtbfhcbihgleddaaGreatDoor
/-
  What Open finds where one file is torn, turned or gone: the others' snapshots.
-/
namespace Go.Proofs.YtbfhcbihgleddaaGreatDoor
open Go.RowKit

theorem man_rd {q : Pd} {x : Sp} (ho : One x) (hr : rdF q (nm (wholeN x.n)) = opn1 (fW x).x) : rdM q (nm (wholeN x.n)) = some ⟨x.n, x.ep, x.parts⟩ := by
  have hm1 := ho.man
  have hmb : Byts (mOut (x.n : Int) x.ep x.parts) := by rw [mOut, if_pos ho.fits]; exact manb_byts _ _ _ ho.fits
  have hml : (mOut (x.n : Int) x.ep x.parts).length ≤ 1048576 := by rw [sealed_len] at hm1; omega
  have h1 := ho.pos
  have h2 := ho.lt
  have h3 := ho.ep
  have hR := rMan_of (x.n : Int) (x.ep : Int) x.parts [] ⟨by omega, by omega⟩ ⟨by omega, by omega⟩ ho.fits
  rw [List.append_nil] at hR
  rw [show opn1 (fW x).x = some (mOut x.n x.ep x.parts) from opn1_sealed hmb hml] at hr
  unfold rdM
  rw [if_pos (pre_whole x.n), hr]
  simp only []
  rw [mOut, if_pos ho.fits, hR]
  simp only [Int.toNat_natCast]
  rw [if_pos ⟨rfl, by omega, trivial⟩]
theorem find_rd {q : Pd} {x : Sp} (ho : One x) (hu : ∀ c ∈ x.chunks, upOk c = true) (hr : ∀ f ∈ fW x :: fP x, rdF q f.n = opn1 f.x) : findS q (nm (wholeN x.n)) = some x := by
  have hM := man_rd ho (hr (fW x) (by simp))
  have hpp : pnames x.n 0 x.chunks = x.parts := congrArg Sp.parts ho.new
  unfold findS
  rw [hM]
  simp only []
  rw [← hpp, chks_own q x.n x.chunks 0 fun j c hc => ?_]
  · rw [hpp]; rfl
  · have hcm := List.mem_of_getElem? hc
    have hj : j = 0 := by
      have h1 := (List.getElem?_eq_some_iff.1 hc).1
      have h2 := ho.len
      omega
    subst hj
    obtain ⟨hb, hl2⟩ := ho.ck c hcm
    rw [sealed_len] at hl2
    refine ⟨?_, hu c hcm⟩
    exact (hr ⟨nm (pt1 c x.n), sealed c, (sealed c).length⟩ (List.mem_cons_of_mem _ (List.mem_map.2 ⟨c, hcm, rfl⟩))).trans (opn1_sealed hb (by omega))
/-- One of its files tells nothing: it is not found. -/
theorem find_gone {q : Pd} {x : Sp} (ho : One x) {s : List UInt8} (hs : s ∈ (fW x :: fP x).map Fi.n) (hn : rdF q s = none) (hr : ∀ f ∈ fW x :: fP x, f.n ≠ s → rdF q f.n = opn1 f.x) : findS q (nm (wholeN x.n)) = none := by
  by_cases hw : nm (wholeN x.n) = s
  · rw [← hw] at hn
    unfold findS rdM
    rw [if_pos (pre_whole x.n), hn]
  · have hM := man_rd ho (hr (fW x) (by simp) hw)
    rw [List.map_cons] at hs
    rcases List.mem_cons.1 hs with e | hs
    · exact absurd e.symm hw
    · rcases ho.cases with ⟨e1, e2⟩ | ⟨c, e1, e2, _⟩
      · unfold fP at hs
        rw [e1] at hs
        simp at hs
      · unfold fP at hs
        rw [e1] at hs
        obtain rfl : s = nm (pt1 c x.n) := by simpa using hs
        unfold findS
        rw [hM]
        simp only []
        rw [e2]
        show Option.map _ (chk1 x.n 0 (pt1 c x.n) (rdF q (nm (pt1 c x.n))) (chks q x.n 1 [])) = none
        rw [hn]
        rfl
def hasF (x : Sp) (s : List UInt8) : Bool := decide (s ∈ (fW x :: fP x).map Fi.n)
/-- A disk like p, but for the file s, which tells nothing. -/
structure Torn (p q : Pd) (s : List UInt8) : Prop where
  same : ∀ t, t ≠ s → rdF q t = rdF p t
  none : rdF q s = none
theorem find_torn {p q : Pd} {xs : List Sp} {s : List UInt8} (h : Has p (FX xs)) (ht : Torn p q s) {x : Sp} (hx : x ∈ xs) (ho : One x) (hu : ∀ c ∈ x.chunks, upOk c = true) : findS q (nm (wholeN x.n)) = if hasF x s then none else some x := by
  have hl : p.left ≠ 0 := by rw [h.left]; decide
  have hp : ∀ f ∈ fW x :: fP x, f.n ≠ s → rdF q f.n = opn1 f.x := fun f hf hne => by
    rw [ht.same f.n hne, rdF_of hl (h.get (List.mem_flatMap.2 ⟨x, hx, hf⟩))]
  unfold hasF
  by_cases hs : s ∈ (fW x :: fP x).map Fi.n
  · rw [decide_eq_true hs, if_pos rfl]
    exact find_gone ho hs ht.none hp
  · rw [decide_eq_false hs, if_neg (by simp)]
    exact find_rd ho hu fun f hf => hp f hf fun e => hs (List.mem_map.2 ⟨f, hf, e⟩)
theorem findS_no {q : Pd} {s : List UInt8} (h : rdF q s = none) : findS q s = none := by
  unfold findS rdM
  rw [h]
  split
  · rename_i m hm
    split at hm <;> cases hm
  · rfl
theorem filter_torn {p q : Pd} {xs : List Sp} {s : List UInt8} (h : Has p (FX xs)) (ht : Torn p q s) (ho : ∀ x ∈ xs, One x) (hu : ∀ x ∈ xs, ∀ c ∈ x.chunks, upOk c = true) : ∀ l : List Sp, (∀ x ∈ l, x ∈ xs) → ((FX l).map Fi.n).filterMap (fun t => findS q t) = l.filter fun x => !hasF x s := by
  intro l
  induction l with
  | nil => intro _; rfl
  | cons x l ih =>
    intro hl
    have hx := hl x (by simp)
    have h1 : (FX (x :: l)).map Fi.n = nm (wholeN x.n) :: ((fP x).map Fi.n ++ (FX l).map Fi.n) := by
      rw [show FX (x :: l) = fW x :: (fP x ++ FX l) from rfl, List.map_cons, List.map_append]
      rfl
    have h2 : ((fP x).map Fi.n).filterMap (fun t => findS q t) = [] := by
      unfold fP
      rw [List.map_map, List.filterMap_map]
      refine List.filterMap_eq_nil_iff.2 fun c hc => ?_
      exact findS_part q x.n 0 (crc c)
    rw [h1, List.filterMap_cons, find_torn h ht hx (ho x hx) (hu x hx), List.filterMap_append, h2, List.nil_append, ih fun y hy => hl y (by simp [hy]), List.filter_cons]
    cases hasF x s <;> rfl
theorem found_torn {p q : Pd} {xs : List Sp} {s : List UInt8} (h : Has p (FX xs)) (ht : Torn p q s) (ho : ∀ x ∈ xs, One x) (hu : ∀ x ∈ xs, ∀ c ∈ x.chunks, upOk c = true) (hN : (q.l.map Fi.n).Perm ((FX xs).map Fi.n) ∨ (s :: q.l.map Fi.n).Perm ((FX xs).map Fi.n)) : (foundS q ((q.l.map Fi.n).map mkS)).Perm (xs.filter fun x => !hasF x s) := by
  have e : foundS q ((q.l.map Fi.n).map mkS) = (q.l.map Fi.n).filterMap (fun t => findS q t) := by
    unfold foundS
    rw [List.filterMap_map]
    congr 1
  rw [e, ← filter_torn h ht ho hu xs fun x hx => hx]
  rcases hN with hN | hN
  · exact hN.filterMap _
  · have := hN.filterMap (fun t => findS q t)
    rw [List.filterMap_cons, findS_no ht.none] at this
    exact this
end Go.Proofs.YtbfhcbihgleddaaGreatDoor
/-
  A file that is deleted, or written anew with what tells nothing.
-/
namespace Go.Proofs.YtbfhcbihgleddaaGreatDoor
open Go.RowKit

theorem rdF_get {p q : Pd} {s : List UInt8} (hp : p.left ≠ 0) (hq : q.left ≠ 0) (h : fGet s q.l = fGet s p.l) : rdF q s = rdF p s := by
  unfold rdF pFind
  rw [if_neg hp, if_neg hq, h]
theorem split_mem {F : List Fi} {f : Fi} (hf : f ∈ F) : ∃ G, F.Perm (f :: G) := by
  obtain ⟨a, b, rfl⟩ := List.append_of_mem hf
  exact ⟨a ++ b, List.perm_middle⟩
theorem torn_delete {p : Pd} {F : List Fi} {f : Fi} (h : Has p F) (hf : f ∈ F) : ∃ q, pDelete p f.n = (q, 0) ∧ Torn p q f.n ∧ (f.n :: q.l.map Fi.n).Perm (F.map Fi.n) ∧ q.left = -1 ∧ q.room = p.room := by
  obtain ⟨G, hG⟩ := split_mem hf
  have h' := h.re hG
  have h0 : p.left ≠ 0 := by rw [h.left]; decide
  obtain ⟨q, e, hq, hr⟩ := h'.delete
  have hq0 : q.left ≠ 0 := by rw [hq.left]; decide
  have hnd := h'.nodup
  rw [List.map_cons, List.nodup_cons] at hnd
  refine ⟨q, e, ⟨fun t ht => ?_, rdF_none (hq.none hnd.1)⟩, ?_, hq.left, hr⟩
  · refine rdF_get h0 hq0 ?_
    have e2 := e
    unfold pDelete pFind at e2
    rw [if_neg h0, h.get hf] at e2
    cases e2
    show fGet t (fDel f.n p.l) = _
    rw [fGet_del, if_neg ht]
  · have := (hq.perm.map Fi.n).cons f.n
    exact this.trans (hG.map Fi.n).symm
theorem torn_write {p : Pd} {F : List Fi} {f : Fi} {y : List Nat} (h : Has p F) (hf : f ∈ F) (hn : okName f.n = true) (hl : y.length ≤ f.x.length) (hm : f.x.length ≤ 1048576) (hr : (fSum F : Int) ≤ p.room) (hy : opn1 y = none) : ∃ q, pWrite p f.n y = (q, 0) ∧ Torn p q f.n ∧ (q.l.map Fi.n).Perm (F.map Fi.n) ∧ q.left = -1 ∧ q.room = p.room := by
  obtain ⟨G, hG⟩ := split_mem hf
  have h0 : p.left ≠ 0 := by rw [h.left]; decide
  have hw : fWas f.n p.l = f.x.length := by unfold fWas; rw [h.get hf]
  have hsum := h.sum
  have hp : pWrite p f.n y = (({ p with l := fPut ⟨f.n, y, 0⟩ p.l } : Pd).done, 0) := by
    unfold pWrite
    rw [if_neg h0, if_neg (by rw [hn]; decide), if_neg (by rw [hw]; omega)]
  have hd : (({ p with l := fPut ⟨f.n, y, 0⟩ p.l } : Pd).done).left = -1 := done_inf (p := { p with l := fPut ⟨f.n, y, 0⟩ p.l }) h.left
  have hd0 : (({ p with l := fPut ⟨f.n, y, 0⟩ p.l } : Pd).done).left ≠ 0 := by rw [hd]; decide
  refine ⟨_, hp, ⟨fun t ht => ?_, ?_⟩, ?_, hd, rfl⟩
  · refine rdF_get h0 hd0 ?_
    show fGet t (fPut ⟨f.n, y, 0⟩ p.l) = _
    rw [fGet_put, if_neg fun e => ht e.symm]
  · rw [rdF_of hd0 (f := ⟨f.n, y, 0⟩)]
    · exact hy
    · show fGet f.n (fPut ⟨f.n, y, 0⟩ p.l) = _
      rw [fGet_put, if_pos rfl]
  · show ((fPut ⟨f.n, y, 0⟩ p.l).map Fi.n).Perm _
    unfold fPut
    have h' := h.re hG
    have hnd := h'.nodup
    rw [List.map_cons, List.nodup_cons] at hnd
    have h1 : (fDel f.n p.l).Perm G := by
      refine (fDel_perm h'.perm f.n).trans ?_
      rw [fDel_cons hnd.1]
    exact (((fIns_perm _ _).trans (h1.cons _)).map Fi.n).trans (hG.map Fi.n).symm
end Go.Proofs.YtbfhcbihgleddaaGreatDoor
/-
  Open on a disk of snapshots, whole or with one file torn: what the vault has.
-/
namespace Go.Proofs.YtbfhcbihgleddaaGreatDoor
open Go.RowKit

theorem perm_lt_eq : ∀ {a b : List Sp}, a.Perm b → a.Pairwise (fun x y => x.n < y.n) → b.Pairwise (fun x y => x.n < y.n) → a = b := by
  intro a
  induction a with
  | nil => intro b h _ _; exact (List.Perm.nil_eq h)
  | cons x a ih =>
    intro b h ha hb
    cases b with
    | nil => exact absurd h.length_eq (by simp)
    | cons y b =>
      rw [List.pairwise_cons] at ha hb
      have hx : x ∈ y :: b := h.subset (by simp)
      have hy : y ∈ x :: a := h.symm.subset (by simp)
      have hxy : x = y := by
        rcases List.mem_cons.1 hx with e | hx
        · exact e
        · rcases List.mem_cons.1 hy with e | hy
          · exact e.symm
          · have h1 := hb.1 x hx
            have h2 := ha.1 y hy
            omega
      subst hxy
      rw [ih (List.Perm.cons_inv h) ha.2 hb.2]
theorem risen {th : List SpV} {xs : List Sp} (hp : (th.map SpV.s).Perm xs) (hr : Rises th) (hx : xs.Pairwise fun a b => a.n < b.n) : th.map SpV.s = xs ∧ Srt th := by
  have hs : Srt th := hr.srt hp (hx.imp fun {a b} h => by omega)
  refine ⟨perm_lt_eq hp ?_ hx, hs⟩
  rw [List.pairwise_map, List.pairwise_iff_getElem]
  intro i j hi hj hij
  exact hs i j _ _ hij (List.getElem?_eq_getElem hi) (List.getElem?_eq_getElem hj)
theorem One.found {xs : List Sp} (ho : ∀ x ∈ xs, One x) : ∀ x ∈ xs, x.n < 18446744073709551616 ∧ x.parts.length ≤ 900 ∧ ∀ s ∈ x.parts, s.size ≤ 100 := by
  intro x hx
  have h := ho x hx
  refine ⟨h.lt, ?_, fun s hs => ?_⟩
  · rw [h.parts, List.length_map]
    have := h.len
    omega
  · rcases h.cases with ⟨_, e⟩ | ⟨c, _, e, hb, _⟩
    · rw [e] at hs; cases hs
    · rw [e] at hs
      rcases List.mem_singleton.1 hs with rfl
      have := (pt1_size hb h.lt).1
      omega
theorem FX_len {xs : List Sp} (ho : ∀ x ∈ xs, One x) : (FX xs).length ≤ 2 * xs.length := by
  induction xs with
  | nil => simp [FX]
  | cons x xs ih =>
    have h1 := ih fun y hy => ho y (by simp [hy])
    have h2 := (ho x (by simp)).len
    rw [show FX (x :: xs) = fW x :: (fP x ++ FX xs) from rfl, List.length_cons, List.length_append, List.length_cons]
    have h3 : (fP x).length = x.chunks.length := by unfold fP; rw [List.length_map]
    omega
theorem FX_name {xs : List Sp} (ho : ∀ x ∈ xs, One x) : ∀ s ∈ (FX xs).map Fi.n, s.length ≤ 100 ∧ okName s = true := by
  intro s hs
  obtain ⟨x, hx, e | ⟨c, hc, e⟩⟩ := mem_FX.1 hs
  · subst e
    rw [nm_length]
    have := wholeN_size (ho x hx).lt
    exact ⟨by omega, ok_w (ho x hx).lt⟩
  · subst e
    rw [nm_length]
    have hb := ((ho x hx).ck c hc).1
    have := (pt1_size hb (ho x hx).lt).1
    exact ⟨by omega, ok_p hb (ho x hx).lt⟩
/-- Open where the disk has the files of xs, one of them perhaps torn or gone. -/
theorem open_found {w0 w : World} {k b n : Nat} {q : Pd} (h : St w0 w k b n q) (hg : Glob w0) (keep : Int) (h0 : q.left ≠ 0) {xs ys : List Sp} (ho : ∀ x ∈ xs, One x) (hlx : xs.length ≤ 400) (hN : ∃ l, (l ++ q.l.map Fi.n).Perm ((FX xs).map Fi.n)) (hf : (foundS q ((q.l.map Fi.n).map mkS)).Perm ys) (hy : ∀ x ∈ ys, x ∈ xs) (hx : ys.Pairwise fun a b => a.n < b.n) :
    Calls Tryz.prog 12 #[.pointer (some ⟨k, 0, none⟩), .int .i64 keep] w fun e w' => ∃ V vt vw th ws, e = .returned (.tuple #[.pointer (some ⟨V, 0, none⟩), .int .i64 0]) ∧ VAt w0 w' V k b n q (max keep 1) vt vw th ws ∧ th.map SpV.s = ys ∧ Srt th ∧ Below w.heap.size w w' := by
  obtain ⟨l, hl⟩ := hN
  have hsub : ∀ s ∈ q.l.map Fi.n, s ∈ (FX xs).map Fi.n := fun s hs => hl.subset (List.mem_append_right _ hs)
  have hlen : q.l.length ≤ 1000 := by
    have h1 := hl.length_eq
    rw [List.length_append, List.length_map, List.length_map] at h1
    have h2 := FX_len ho
    omega
  refine (VOpen_any h hg keep h0 (fun s hs => (FX_name ho s (hsub s hs)).1) hlen (fun x hx' => ?_)).mono ?_
  · obtain ⟨h1, h2, h3⟩ := One.found ho x (hy x (hf.subset hx'))
    exact ⟨h1, h2, fun s hs => by have := h3 s hs; unfold maxLen; omega⟩
  · rintro e w' ⟨V, vt, vw, th, rfl, hv, hp, hr, hb⟩
    obtain ⟨h1, h2⟩ := risen (hp.trans hf) hr hx
    exact ⟨V, vt, vw, th, _, rfl, hv, h1, h2, hb⟩
end Go.Proofs.YtbfhcbihgleddaaGreatDoor
