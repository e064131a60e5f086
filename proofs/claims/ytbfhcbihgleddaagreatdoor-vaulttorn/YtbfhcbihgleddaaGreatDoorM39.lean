/-
  Texts of the vault, in build order: VLight, VKeepV.
-/
import Derived.Test.YtbfhcbihgleddaaGreatDoorM38
/-
  The law's light, of one step with one part.
-/
namespace Go.Proofs.YtbfhcbihgleddaaGreatDoor
open Go.RowKit

set_option maxHeartbeats 4000000 in
set_option maxRecDepth 100000 in
theorem light1 {w : World} {G1 G2 m pn cn cm cp cc : Nat} {am ap ac : Option Addr} {a b c : Value} (h2 : BoxT 33 w G2 #[.int .i64 0, .int .i64 0, .slice (some ⟨G1, 0, none⟩) 1 1, .slice none 0 0, .slice none 0 0]) (h1 : BoxT 27 w G1 #[a, b, c, .slice am m cm, .slice ap pn cp, .slice ac cn cc])
    (lm : m ≤ 140737488355328) (lp : pn ≤ 140737488355328) (lc : cn ≤ 140737488355328) :
    Calls Tryz.prog 10 #[.slice (some ⟨G2, 0, none⟩) 1 1] w fun e w' => e = .returned (.bool (decide (10 + m + 4 * pn + 4 * cn ≤ 20000))) ∧ Below w.heap.size w w' := by
  obtain ⟨t, ht⟩ : ∃ t, 10 + m + 4 * pn + 4 * cn = t := ⟨_, rfl⟩
  have ht2 : (10 : Int) + (m : Int) + 4 * (pn : Int) + 4 * (cn : Int) = (t : Int) := by omega
  rw [ht]
  have hw1 : IntKind.i64.wrap (10 + (m : Int)) = 10 + (m : Int) := by rw [IntKind.wrap_i64]; omega
  have hw2 : IntKind.i64.wrap (4 * (pn : Int)) = 4 * (pn : Int) := by rw [IntKind.wrap_i64]; omega
  have hw3 : IntKind.i64.wrap (4 * (cn : Int)) = 4 * (cn : Int) := by rw [IntKind.wrap_i64]; omega
  have hw4 : IntKind.i64.wrap (10 + (m : Int) + 4 * (pn : Int)) = 10 + (m : Int) + 4 * (pn : Int) := by rw [IntKind.wrap_i64]; omega
  have hw5 : IntKind.i64.wrap (10 + (m : Int) + 4 * (pn : Int) + 4 * (cn : Int)) = (t : Int) := by rw [IntKind.wrap_i64]; omega
  have H1 := hide h1
  have H2 := hide h2
  clear h1 h2 ht
  go_enter Tryz.func10, Tryz.ntmps10
  go_wp2_with fail
  go_loopw [3, 4] (fun nv iv wr => ((nv = .int .i64 0 ∧ iv = .int .i64 0) ∨ (nv = .int .i64 (t : Int) ∧ iv = .int .i64 1)) ∧ Hid (Below w.heap.size w wr)) (fun _ iv _ => 1 - (intOf iv).toNat)
  case atStart => exact ⟨.inl ⟨rfl, rfl⟩, Below.refl _ _⟩
  case round =>
    obtain ⟨hc, HB⟩ := hrel
    have X1 := H1.out.belowT HB.out
    have X2 := H2.out.belowT HB.out
    obtain ⟨f0, f1, f2, f3, f4, f5⟩ := X1.cells6
    have d2 : wr.cell? ⟨G2, 2, none⟩ = some (.slice (some ⟨G1, 0, none⟩) 1 1) := (X2.cellAt 2).trans rfl
    have d3 : wr.cell? ⟨G2, 3, none⟩ = some (.slice none 0 0) := (X2.cellAt 3).trans rfl
    have d4 : wr.cell? ⟨G2, 4, none⟩ = some (.slice none 0 0) := (X2.cellAt 4).trans rfl
    rcases hc with ⟨rfl, rfl⟩ | ⟨rfl, rfl⟩
    · go_wp2_with fail
      go_quiet (fail)
      have HB2 := hide (below_drewN' HB.out nq)
      generalize wr.drewN nq = wa at *
      clear f0 f1 f2 f3 f4 f5 d2 d3 d4 X1 X2
      go_wp2_with fail
      go_loopw [3, 5] (fun nv kv wz => ((nv = .int .i64 0 ∧ kv = .int .i64 0) ∨ (nv = .int .i64 (t : Int) ∧ kv = .int .i64 1)) ∧ Hid (Below w.heap.size w wz)) (fun _ kv _ => 1 - (intOf kv).toNat)
      case atStart => exact ⟨.inl ⟨rfl, rfl⟩, HB2.out⟩
      case round =>
        obtain ⟨hc, HZ⟩ := hrel
        have X1 := H1.out.belowT HZ.out
        have X2 := H2.out.belowT HZ.out
        obtain ⟨f0, f1, f2, f3, f4, f5⟩ := X1.cells6
        have d2 : wr.cell? ⟨G2, 2, none⟩ = some (.slice (some ⟨G1, 0, none⟩) 1 1) := (X2.cellAt 2).trans rfl
        clear X1 X2
        rcases hc with ⟨rfl, rfl⟩ | ⟨rfl, rfl⟩
        · go_wp2_with fail
          go_quiet (fail)
          have HZ2 := hide (below_drewN' HZ.out nq)
          go_wp2
          go_roundw
          case rel => exact ⟨.inr ⟨by first | rfl | (rw [ht2]), rfl⟩, HZ2.out⟩
          case measure => simp [intOf]
        · go_wp2
          go_roundw
          case rel => exact ⟨.inr ⟨rfl, rfl⟩, HZ.out⟩
          case measure => simp [intOf]
    · by_cases ht3 : t ≤ 20000
      · have h20 : (t : Int) ≤ 20000 := by omega
        go_wp2
        go_ret
        exact ⟨by simp [ht3], HB.out⟩
      · have h20 : ¬ ((t : Int) ≤ 20000) := by omega
        go_wp2
        go_ret
        exact ⟨by simp, HB.out⟩
end Go.Proofs.YtbfhcbihgleddaaGreatDoor
/-
  The vault of the law VaultKeep: what it keeps of the world.
-/
namespace Go.Proofs.YtbfhcbihgleddaaGreatDoor
open Go.RowKit

theorem tmod_nat (a b : Nat) : Int.tmod (a : Int) (b : Int) = ((a % b : Nat) : Int) := rfl
def u64cs (n : Nat) : List Value := [.int .u64 (n : Int)]
theorem u64cs_len (n : Nat) : (u64cs n).length = 1 := rfl
theorem u64cs_one (n : Nat) : ∀ u ∈ u64cs n, u.oneCell' = true := fun u hu => by simp [u64cs] at hu; subst hu; rfl
def snc (x : SnV) : Array Value := #[.int .i64 x.s.task, .int .i64 x.s.off, .int .i64 x.s.mark, .slice x.am x.s.marks.length x.cm, .slice x.ap x.s.panes.length x.cp, .slice x.ac x.s.outs.length x.cc]
theorem snIn {w : World} {g : Nat} {x : SnV} (h : BoxT 27 w g (snc x)) (hs : SnSeg w.heap.size w (.slice x.am x.s.marks.length x.cm) (.slice x.ap x.s.panes.length x.cp) (.slice x.ac x.s.outs.length x.cc) x.s) (hp : ∀ o ∈ x.s.outs, 0 ≤ o.f.n) : SnsIn w.heap.size w (.slice (some ⟨g, 0, none⟩) 1 1) [x] := by
  refine ⟨⟨_, _, rfl, by simp, .inr ⟨g, 0, rfl, h.lt, fun i z hz j u hu => ?_⟩⟩, fun z hz => ?_, fun z hz o ho => ?_⟩
  · have hi : i = 0 := by have := (List.getElem?_eq_some_iff.1 hz).1; simp at this; omega
    subst hi
    obtain rfl : x = z := by simpa using hz
    rw [h.cellAt, Nat.zero_mul, Nat.add_zero, Nat.zero_add]
    match j, hu with
    | 0, hu | 1, hu | 2, hu | 3, hu | 4, hu | 5, hu => simpa [SnV.cs, snc] using hu
  · rcases List.mem_singleton.1 hz with rfl; exact hs
  · rcases List.mem_singleton.1 hz with rfl; exact hp o ho
def SnOk (B : Nat) (w : World) (x : SnV) : Prop := SnSeg B w (.slice x.am x.s.marks.length x.cm) (.slice x.ap x.s.panes.length x.cp) (.slice x.ac x.s.outs.length x.cc) x.s
theorem SnOk.in_ {B : Nat} {w w' : World} {g : Nat} {x : SnV} (h : SnOk B w x) (hb : Below B w w') (hB : B ≤ w'.heap.size) (hx : BoxT 27 w' g (snc x)) (hp : ∀ o ∈ x.s.outs, 0 ≤ o.f.n) : SnsIn w'.heap.size w' (.slice (some ⟨g, 0, none⟩) 1 1) [x] :=
  snIn hx ((SnSeg.below h hb).mono hB) hp
theorem Row.pt {w0 w w' : World} {V k b n : Nat} {p : Pd} {keep : Int} {vt vw vt' vw' va : Value} {th : List SpV} {ws : List ByteArray} {al : List Nat} {base : Nat} (hr : Row 41 1 u64cs base w va al) (h : VAt w0 w V k b n p keep vt vw th ws) (ht : PT V k b vt vw vt' vw' w w') : Row 41 1 u64cs base w' va al :=
  hr.back fun g e => by
    obtain ⟨cur, hc⟩ := hr.has g e
    have := hc.pt h ht (by decide) (by decide) (by decide) (by decide)
    unfold BoxT at this hc
    rw [this, hc]
theorem VAt.rowed41 {w0 w w' : World} {V k b n : Nat} {p : Pd} {keep : Int} {vt vw va : Value} {th : List SpV} {ws : List ByteArray} {al : List Nat} (h : VAt w0 w V k b n p keep vt vw th ws) (hr : Row 41 1 u64cs w0.heap.size w va al) (hg : w.grownBy w' va.ownBlock) : VAt w0 w' V k b n p keep vt vw th ws := by
  cases ho : va.ownBlock with
  | none =>
    rw [ho] at hg
    exact h.below ⟨hg.os, hg.tape, hg.output, hg.size, fun i hi => hg.block i hi (by simp)⟩
  | some g =>
    rw [ho] at hg
    obtain ⟨cur, hc⟩ := hr.has g ho
    exact h.law hc (hr.at g ho) ⟨hg.os, hg.tape, hg.output, hg.size, fun i hi h1 _ => hg.block i hi (by simpa using h1)⟩ (by decide) (by decide) (by decide) (by decide) (by decide) (by decide)
/-- The vault of the law, and the list of all numbers that were put. -/
structure VK (w0 w : World) (S0 k V b nf kp : Nat) (c : List Nat) (al : List Nat) (va : Value) (x : SnV) : Prop where
  v : ∃ vt vw th p, th.map SpV.s = (al.drop (al.length - kp)).map (XS c) ∧ VAt w0 w V k b nf p (kp : Int) vt vw th [] ∧ Has p (FF c (al.drop (al.length - kp))) ∧ p.room = 1048576
  sn : BoxT 27 w S0 (snc x)
  row : Row 41 1 u64cs w0.heap.size w va al
theorem VK.below {w0 w w' : World} {S0 k V b nf kp : Nat} {c : List Nat} {al : List Nat} {va : Value} {x : SnV} (H : VK w0 w S0 k V b nf kp c al va x) (hb : Below w.heap.size w w') : VK w0 w' S0 k V b nf kp c al va x := by
  obtain ⟨vt, vw, th, p, h1, h2, h3⟩ := H.v
  exact ⟨⟨vt, vw, th, p, h1, h2.below hb, h3⟩, H.sn.belowT hb, H.row.below hb⟩
theorem VK.since {w0 w : World} {S0 k V b nf kp : Nat} {c : List Nat} {al : List Nat} {va : Value} {x : SnV} (H : VK w0 w S0 k V b nf kp c al va x) : Below w0.heap.size w0 w := by
  obtain ⟨vt, vw, th, p, h1, h2, h3⟩ := H.v
  exact h2.st.since
/-- A Put that is taken. -/
theorem VK.put {w0 w : World} {S0 k V b nf kp : Nat} {c : List Nat} {al : List Nat} {va vs : Value} {x : SnV} (H : VK w0 w S0 k V b nf kp c al va x) (hg : Glob w0) (hx : sEr x.s = 0) (hc : sealed (sOut x.s) = c) (hl : 10 + x.s.marks.length + 4 * x.s.panes.length + 4 * x.s.outs.length ≤ 20000) (hkp : 1 ≤ kp) (hkp4 : kp ≤ 4) (n : Nat) (h0 : 0 < n) (hlt : ∀ m ∈ al, m < n) (hn : n ≤ 1000) (hsn : SnsIn w.heap.size w vs [x]) (hnf : nf + 3000 ≤ 1000000) {vn ve : Int} (hvn : vn = (n : Int)) (hve : ve = 3) :
    Calls Tryz.prog 13 #[.pointer (some ⟨V, 0, none⟩), .int .u64 vn, .int .u64 ve, vs] w fun e w' => e = .returned (.int .i64 0) ∧ (∃ vt vw th p, th.map SpV.s = ((al ++ [n]).drop ((al ++ [n]).length - kp)).map (XS c) ∧ VAt w0 w' V k b (nf + 3000) p (kp : Int) vt vw th [] ∧ Has p (FF c ((al ++ [n]).drop ((al ++ [n]).length - kp))) ∧ p.room = 1048576) ∧ BoxT 27 w' S0 (snc x) ∧ Row 41 1 u64cs w0.heap.size w' va al := by
  subst hvn hve
  obtain ⟨vt, vw, th, p, h1, h2, h3, h4⟩ := H.v
  obtain ⟨hz, hb⟩ := snb_len2 hl
  rw [hc] at hz hb
  have hlen : (al.drop (al.length - kp)).length ≤ kp := by rw [List.length_drop]; omega
  have hth : th.length ≤ kp := by
    have := congrArg List.length h1
    rw [List.length_map, List.length_map] at this
    omega
  have hltd : ∀ m ∈ al.drop (al.length - kp), m < n := fun m hm => hlt m (List.mem_of_mem_drop hm)
  obtain ⟨p', e, h5, h6⟩ := put_clean (kp := kp) hb h3 (show n < 18446744073709551616 by omega) h0 hltd h4 (by
    have : ((al.drop (al.length - kp)).length + 1) * ((sealed c).length + 100) ≤ 5 * 160100 := Nat.mul_le_mul (by omega) (by omega)
    omega)
  rw [drop_step] at e h5
  have hpk : pk [] [] ([x].map SnV.s) = ([c], 0) := by rw [← hc]; exact pk_one hx
  refine (Put_any h2 hg n 3 (by omega) (by decide) vs [x] hsn (by simp) (by rw [hpk]; simp) (by omega) (by omega) (hx_of h1 (fun y hy => ?_)) (by simp) (fun s hs => by cases hs) hnf p' 0 _ [] (by rw [h1, hpk]; exact e)).mono ?_
  · obtain ⟨m, hm, rfl⟩ := List.mem_map.1 hy
    have hmn := hltd m hm
    refine ⟨by show m < _; omega, by simp [XS], fun s hs => ?_⟩
    rcases List.mem_singleton.1 hs with rfl
    have := (pt1_size hb (show m < 18446744073709551616 by omega)).1
    omega
  · rintro e2 w' ⟨rfl, vt', vw', th', g1, g2, g3⟩
    exact ⟨rfl, ⟨vt', vw', th', p', g1, g2, h5, h6⟩, H.sn.pt h2 g3 (by decide) (by decide) (by decide) (by decide), H.row.pt h2 g3⟩
theorem VK.bad {w0 w : World} {S0 k V b nf kp : Nat} {c : List Nat} {al : List Nat} {va vs : Value} {x : SnV} (H : VK w0 w S0 k V b nf kp c al va x) (hg : Glob w0) (hx : sEr x.s ≠ 0) (hc : sealed (sOut x.s) = c) (hl : 10 + x.s.marks.length + 4 * x.s.panes.length + 4 * x.s.outs.length ≤ 20000) (hkp4 : kp ≤ 4) (hlt : ∀ m ∈ al, m ≤ 1000) (n : Nat) (hn : n ≤ 1000) (hsn : SnsIn w.heap.size w vs [x]) (hnf : nf + 3000 ≤ 1000000) {vn ve : Int} (hvn : vn = (n : Int)) (hve : ve = 3) :
    Calls Tryz.prog 13 #[.pointer (some ⟨V, 0, none⟩), .int .u64 vn, .int .u64 ve, vs] w fun e w' => e = .returned (.int .i64 (sEr x.s)) ∧ Below w0.heap.size w0 w' := by
  subst hvn hve
  obtain ⟨vt, vw, th, p, h1, h2, h3, h4⟩ := H.v
  obtain ⟨hz, hb⟩ := snb_len2 hl
  rw [hc] at hz hb
  have hlen : (al.drop (al.length - kp)).length ≤ kp := by rw [List.length_drop]; omega
  have hth : th.length ≤ kp := by
    have := congrArg List.length h1
    rw [List.length_map, List.length_map] at this
    omega
  have hpk : pk [] [] ([x].map SnV.s) = ([], sEr x.s) := pk_bad hx
  refine (Put_any h2 hg n 3 (by omega) (by decide) vs [x] hsn (by simp) (by rw [hpk]; simp) (by omega) (by omega) (hx_of h1 (fun y hy => ?_)) (by simp) (fun s hs => by cases hs) hnf p (sEr x.s) _ [] (by rw [hpk, pPut, if_neg hx])).mono ?_
  · obtain ⟨m, hm, rfl⟩ := List.mem_map.1 hy
    have hmn := hlt m (List.mem_of_mem_drop hm)
    refine ⟨by show m < _; omega, by simp [XS], fun s hs => ?_⟩
    rcases List.mem_singleton.1 hs with rfl
    have := (pt1_size hb (show m < 18446744073709551616 by omega)).1
    omega
  · rintro e2 w' ⟨rfl, vt', vw', th', g1, g2, g3⟩
    exact ⟨rfl, g2.st.since⟩
theorem VK.app {w0 w w1 w' : World} {S0 k V b nf kp n : Nat} {c : List Nat} {al : List Nat} {va va' : Value} {x : SnV} (hv : ∃ vt vw th p, th.map SpV.s = ((al ++ [n]).drop ((al ++ [n]).length - kp)).map (XS c) ∧ VAt w0 w V k b nf p (kp : Int) vt vw th [] ∧ Has p (FF c ((al ++ [n]).drop ((al ++ [n]).length - kp))) ∧ p.room = 1048576) (hsn : BoxT 27 w S0 (snc x)) (hb : Below w.heap.size w w1) (hrow : Row 41 1 u64cs w0.heap.size w1 va al) (hr : Row 41 1 u64cs w0.heap.size w' va' (al ++ [n])) (hg : w1.grownBy w' va.ownBlock) : VK w0 w' S0 k V b nf kp c (al ++ [n]) va' x := by
  obtain ⟨vt, vw, th, p, h1, h2, h3⟩ := hv
  have hs1 := hsn.belowT hb
  refine ⟨⟨vt, vw, th, p, h1, (h2.below hb).rowed41 hrow hg, h3⟩, ?_, hr⟩
  have h0 := hs1
  unfold BoxT at h0 ⊢
  rw [hg.block S0 hs1.lt fun e => ?_]
  · exact h0
  · obtain ⟨cur, hc⟩ := hrow.has S0 e.symm
    unfold BoxT at hc
    rw [h0] at hc; simp at hc
theorem Row.cells41 {w : World} {base : Nat} {v : Value} {al : List Nat} (h : Row 41 1 u64cs base w v al) (h0 : al ≠ []) : ∃ g off cap, v = .slice (some ⟨g, off, none⟩) al.length cap ∧ g < w.heap.size ∧ al.length ≤ cap ∧ cap ≤ 9223372036854775807 ∧ ∀ j (y : Nat), al[j]? = some y → w.cell? ⟨g, off + j, none⟩ = some (.int .u64 (y : Int)) := by
  rcases h with ⟨_, h⟩ | ⟨g, off, cap, cur, e, h2, h3, h4, h5, h6, h7⟩
  · exact absurd h h0
  · refine ⟨g, off, cap, e, h3.lt, h4, by unfold maxLen at h5; omega, fun j y hy => ?_⟩
    rw [h3.cellAt]
    have := flat_get u64cs_len al j 0 y (.int .u64 (y : Int)) hy rfl
    rw [Nat.mul_one, Nat.add_zero] at this
    exact h7 _ _ this
theorem VK.cells {w0 w : World} {S0 k V b nf kp g o n cp : Nat} {c : List Nat} {al : List Nat} {x : SnV} (H : VK w0 w S0 k V b nf kp c al (.slice (some ⟨g, o, none⟩) n cp) x) (j y : Nat) (hy : al[j]? = some y) : w.cell? ⟨g, o + j, none⟩ = some (.int .u64 (y : Int)) := by
  obtain ⟨g', o', c', e, _, _, _, h⟩ := H.row.cells41 (fun h => by rw [h] at hy; cases hy)
  cases e
  exact h j y hy
theorem SpV.n_s (x : SpV) : x.s.n = x.n := rfl
theorem VK.nums {th : List SpV} {c : List Nat} {ns : List Nat} (h : th.map SpV.s = ns.map (XS c)) : th.map SpV.n = ns := by
  have := congrArg (List.map Sp.n) h
  rw [List.map_map, List.map_map] at this
  rw [show (Sp.n ∘ XS c) = id from rfl, List.map_id] at this
  exact this
theorem VK.list {w0 w : World} {S0 k V b nf kp : Nat} {c : List Nat} {al : List Nat} {va : Value} {x : SnV} (H : VK w0 w S0 k V b nf kp c al va x) (hkp4 : kp ≤ 4) (m : Nat) (hm : al.length - kp = m) :
    Calls Tryz.prog 14 #[.pointer (some ⟨V, 0, none⟩)] w fun e w' => e = .returned (.slice (some ⟨w.heap.size, 0, none⟩) (al.length - m) (al.length - m)) ∧ Below w.heap.size w w' ∧ w.heap.size < w'.heap.size ∧ ∀ j y, al[m + j]? = some y → w'.cell? ⟨w.heap.size, j, none⟩ = some (.int .u64 (y : Int)) := by
  obtain ⟨vt, vw, th, p, h1, h2, h3, h4⟩ := H.v
  rw [hm] at h1
  have hn := VK.nums h1
  have hl : th.length = al.length - m := by
    have := congrArg List.length hn
    rwa [List.length_map, List.length_drop] at this
  refine (list_any h2 (by omega)).mono ?_
  rintro e w' ⟨rfl, h5⟩
  rw [hl] at h5 ⊢
  obtain ⟨cs, g1, g2, g3⟩ := h5.box
  refine ⟨rfl, h5.bel, g1.lt, fun j y hy => ?_⟩
  rw [g1.cellAt]
  have hy2 : (th.map SpV.n)[j]? = some y := by rw [hn, List.getElem?_drop]; exact hy
  rw [List.getElem?_map] at hy2
  cases ht : th[j]? with
  | none => rw [ht] at hy2; cases hy2
  | some z =>
    rw [ht] at hy2
    obtain rfl : z.n = y := by simpa using hy2
    exact g3 j z (by have := (List.getElem?_eq_some_iff.1 ht).1; omega) ht
theorem VK.has {w0 w : World} {S0 k V b nf kp : Nat} {c : List Nat} {al : List Nat} {va : Value} {x : SnV} (H : VK w0 w S0 k V b nf kp c al va x) (hkp4 : kp ≤ 4) (hpw : al.Pairwise (· < ·)) (m : Nat) (hm : al.length - kp = m) (i t : Nat) (ht : al[i]? = some t) {vn : Int} (hvn : vn = (t : Int)) :
    Calls Tryz.prog 15 #[.pointer (some ⟨V, 0, none⟩), .int .u64 vn] w fun e w' => e = .returned (.bool (decide (m ≤ i))) ∧ Below w.heap.size w w' := by
  subst hvn
  obtain ⟨vt, vw, th, p, h1, h2, h3, h4⟩ := H.v
  rw [hm] at h1
  have hn := VK.nums h1
  have hl : th.length = al.length - m := by
    have := congrArg List.length hn
    rwa [List.length_map, List.length_drop] at this
  have hge : ∀ (a : Nat) (z : SpV), th[a]? = some z → al[m + a]? = some z.n := by
    intro a z hz
    have : (th.map SpV.n)[a]? = some z.n := by rw [List.getElem?_map, hz]; rfl
    rwa [hn, List.getElem?_drop] at this
  have hlt2 : ∀ (a e : Nat) (y z : Nat), a < e → al[a]? = some y → al[e]? = some z → y < z := by
    intro a e y z hae hy hz
    obtain ⟨ha, rfl⟩ := List.getElem?_eq_some_iff.1 hy
    obtain ⟨he, rfl⟩ := List.getElem?_eq_some_iff.1 hz
    exact List.pairwise_iff_getElem.1 hpw a e ha he hae
  have hs : Srt th := fun a e y z hae hy hz => hlt2 _ _ _ _ (Nat.add_lt_add_left hae m) (hge a y hy) (hge e z hz)
  refine (has_any h2 (by omega) hs t).mono ?_
  rintro e w' ⟨rfl, h5⟩
  refine ⟨?_, h5⟩
  congr 2
  have hil := (List.getElem?_eq_some_iff.1 ht).1
  by_cases hmi : m ≤ i
  · rw [decide_eq_true hmi, List.any_eq_true]
    have : (th.map SpV.n)[i - m]? = some t := by rw [hn, List.getElem?_drop, Nat.add_sub_cancel' hmi]; exact ht
    obtain ⟨z, hz, e⟩ := List.mem_map.1 (List.mem_of_getElem? this)
    exact ⟨z, hz, by simp [e]⟩
  · rw [decide_eq_false hmi, List.any_eq_false]
    intro z hz
    obtain ⟨a, ha⟩ := List.mem_iff_getElem?.1 hz
    have := hlt2 i (m + a) _ _ (by omega) ht (hge a z ha)
    simp only [beq_iff_eq]
    omega
theorem VK.used {w0 w : World} {S0 k V b nf kp : Nat} {c : List Nat} {al : List Nat} {va : Value} {x : SnV} (H : VK w0 w S0 k V b nf kp c al va x) (hc : sealed (sOut x.s) = c) (hl : 10 + x.s.marks.length + 4 * x.s.panes.length + 4 * x.s.outs.length ≤ 20000) (hkp4 : kp ≤ 4) (hlt : ∀ m ∈ al, m ≤ 1000) (hkl : kp ≤ al.length) :
    Calls Tryz.prog 16 #[.pointer (some ⟨k, 0, none⟩)] w fun e w' => ∃ us : Nat, e = .returned (.int .i64 (us : Int)) ∧ w' = w ∧ kp * (sealed c).length ≤ us ∧ us ≤ kp * (sealed c).length + 400 ∧ us ≤ 1048576 := by
  obtain ⟨vt, vw, th, p, h1, h2, h3, h4⟩ := H.v
  obtain ⟨hz, hb⟩ := snb_len2 hl
  rw [hc] at hz hb
  obtain ⟨g1, g2⟩ := FF_sum hb (ns := al.drop (al.length - kp)) (fun m hm => by have := hlt m (List.mem_of_mem_drop hm); omega)
  rw [List.length_drop, show al.length - (al.length - kp) = kp by omega] at g1 g2
  rw [← h3.sum] at g1 g2
  have h5 : kp * ((sealed c).length + 100) ≤ 4 * (160000 + 100) := Nat.mul_le_mul hkp4 (by omega)
  refine (kUsed h2.st).mono ?_
  rintro e w' ⟨rfl, rfl⟩
  refine ⟨_, rfl, rfl, g1, ?_, by omega⟩
  rw [Nat.mul_add] at g2
  omega
end Go.Proofs.YtbfhcbihgleddaaGreatDoor
