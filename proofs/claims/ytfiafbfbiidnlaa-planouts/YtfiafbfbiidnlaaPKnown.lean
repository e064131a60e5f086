/-
  known: the chapter's examples.
-/
import Derived.Test.YtfiafbfbiidnlaaPMake
namespace Go.Proofs.Ytfiafbfbiidnlaa
open Go.RowKit

def knP (a b : Nat) : List Nd := [⟨1, none, 0, [], 2, ⟨0, 0, none, 0, []⟩, 0, 0, 0, 0⟩, ⟨6, some ⟨a, 0, none⟩, 1, [0], 2, ⟨0, 0, none, 0, []⟩, 1, 0, 0, 0⟩, ⟨8, some ⟨b, 0, none⟩, 1, [1], 2, ⟨0, 0, none, 0, []⟩, 0, 0, 0, 0⟩]
def knT : List Tk := [⟨0, 0⟩, ⟨0, 1⟩, ⟨1, 0⟩, ⟨1, 1⟩, ⟨2, 0⟩, ⟨2, 1⟩]
def knC : List Cn := [⟨0, 2, 0⟩, ⟨0, 3, 0⟩, ⟨1, 2, 0⟩, ⟨1, 3, 0⟩, ⟨2, 4, 0⟩, ⟨3, 5, 0⟩]
theorem knP_a (a b : Nat) : errJ (knP a b) = 0 ∧ tksOf 0 (knP a b) = knT ∧ chOf (knP a b) = knC := ⟨by kernel_rfl, by kernel_rfl, by kernel_rfl⟩
theorem knP_b (a b : Nat) : kyd (knP a b) 1 = true ∧ kyd (knP a b) 0 = false ∧ plc (outsP (knP a b) knT 0 (grp 1)) 0 knC = [1] ∧ plc (fun c : Cn => decide (c.tg = 2)) 0 knC = [0, 2] ∧ grp 1 = 9 ∧ prt 9 4 = 2 ∧ prt 16 4 = 0 := ⟨by kernel_rfl, by kernel_rfl, by kernel_rfl, by kernel_rfl, by kernel_rfl, by kernel_rfl, by kernel_rfl⟩
theorem knP_noE (a b : Nat) : ∀ n ∈ knP a b, ¬ (2 ≤ n.kind ∧ n.kind ≤ 4) := by
  intro n hn
  simp only [knP, List.mem_cons, List.not_mem_nil, or_false] at hn
  rcases hn with rfl | rfl | rfl <;> simp
theorem knP_par (a b : Nat) : ∀ n ∈ knP a b, n.par ≤ 4 := by
  intro n hn
  simp only [knP, List.mem_cons, List.not_mem_nil, or_false] at hn
  rcases hn with rfl | rfl | rfl <;> simp
theorem fourW (w : World) (o0 o1 o2 o3 : Obj) : ((((w.alloc o0).alloc o1).alloc o2).alloc o3).heap[w.heap.size]? = some o0 ∧ ((((w.alloc o0).alloc o1).alloc o2).alloc o3).heap[w.heap.size + 1]? = some o1 ∧ ((((w.alloc o0).alloc o1).alloc o2).alloc o3).heap[w.heap.size + 1 + 1]? = some o2 ∧ ((((w.alloc o0).alloc o1).alloc o2).alloc o3).heap[w.heap.size + 1 + 1 + 1]? = some o3 := by
  have e : ((((w.alloc o0).alloc o1).alloc o2).alloc o3).heap = (((w.heap.push o0).push o1).push o2).push o3 := rfl
  rw [e]
  simp only [Array.getElem?_push, Array.size_push]
  refine ⟨?_, ?_, ?_, ?_⟩
  · rw [if_neg (by omega), if_neg (by omega), if_neg (by omega), if_pos trivial]
  · rw [if_neg (by omega), if_neg (by omega), if_pos trivial]
  · rw [if_neg (by omega), if_pos trivial]
  · rw [if_pos trivial]
structure Kp (b : Nat) (w : World) : Prop where
  j : JobIn (b + 4) w (.slice (some ⟨b + 1 + 1, 0, none⟩) 3 3) (knP b (b + 1))
  x : BoxT 24 w (b + 1 + 1 + 1) #[.slice (some ⟨b + 1 + 1, 0, none⟩) 3 3]
  sz : b + 4 ≤ w.heap.size
theorem Kp.below {b : Nat} {w w' : World} (h : Kp b w) (hb : Below w.heap.size w w') : Kp b w' := ⟨h.j.below (hb.mono h.sz), h.x.below hb, Nat.le_trans h.sz hb.size⟩
structure KQ (b P : Nat) (tv cv : Value) (w : World) : Prop where
  k : Kp b w
  t : LSeg 2 Tk.cs P w tv knT
  c : LSeg 3 Cn.cs P w cv knC
  px : BoxT 30 w P #[tv, cv]
theorem KQ.below {b P : Nat} {tv cv : Value} {w w' : World} (h : KQ b P tv cv w) (hb : Below w.heap.size w w') : KQ b P tv cv w' :=
  ⟨h.k.below hb, h.t.below (hb.mono (Nat.le_of_lt h.px.lt)), h.c.below (hb.mono (Nat.le_of_lt h.px.lt)), h.px.below hb⟩

set_option maxHeartbeats 4000000 in
set_option maxRecDepth 100000 in
theorem known_any (w : World) : Calls Try.prog 8 #[] w fun e w' => e = .returned (.bool true) ∧ Below w.heap.size w w' := by
  go_enter Try.func8, Try.ntmps8
  go_wp2_with fail
  refine step_any ?_
  intro w1 hw1
  have f0 : BoxT 3 w1 w.heap.size (([0] : List Int).flatMap ic).toArray := by unfold BoxT; rw [hw1]; exact (fourW _ _ _ _ _).1
  have f1 : BoxT 3 w1 (w.heap.size + 1) (([1] : List Int).flatMap ic).toArray := by unfold BoxT; rw [hw1]; exact (fourW _ _ _ _ _).2.1
  have f2 : BoxT 54 w1 (w.heap.size + 1 + 1) ((knP w.heap.size (w.heap.size + 1)).flatMap Nd.cs).toArray := by unfold BoxT; rw [hw1]; exact (fourW _ _ _ _ _).2.2.1
  have f3 : BoxT 24 w1 (w.heap.size + 1 + 1 + 1) #[.slice (some ⟨w.heap.size + 1 + 1, 0, none⟩) 3 3] := by unfold BoxT; rw [hw1]; exact (fourW _ _ _ _ _).2.2.2
  have hsz : w1.heap.size = w.heap.size + 4 := by rw [hw1]; simp
  have B1 : Hid (Below w.heap.size w w1) := (show Below _ _ _ by rw [hw1]; exact ((((Below.refl _ _).alloc (Nat.le_refl _) _).alloc (by simp) _).alloc (by simp; omega) _).alloc (by simp; omega) _)
  clear hw1
  have K1 : Hid (Kp w.heap.size w1) := by
    refine ⟨⟨LSeg.ofRow' (xs := knP w.heap.size (w.heap.size + 1)) (cap := 3) Nd.cs_len f2 (by omega) (by simp [knP]), fun n hn => ?_⟩, f3, by omega⟩
    simp only [knP, List.mem_cons, List.not_mem_nil, or_false] at hn
    rcases hn with rfl | rfl | rfl
    · exact LSeg.none
    · exact LSeg.ofRow' (xs := [0]) (cap := 1) ic_len f0 (by omega) (by simp)
    · exact LSeg.ofRow' (xs := [1]) (cap := 1) ic_len f1 (by omega) (by simp)
  clear f0 f1 f2 f3
  refine (Make_any ((K1.out.j).mono K1.out.sz) (by simp [knP]) (knP_par _ _) (by rw [(knP_a _ _).2.2]; decide) (fun w' hb => by
    have := Check_any (((K1.out.below hb).j).mono (K1.out.below hb).sz) (.noE (knP_noE _ _))
    rw [(knP_a _ _).1] at this
    exact this)).mono ?_
  rintro e w2 ⟨tv, cv, rfl, ot, oc, b2⟩
  rw [(knP_a _ _).2.1] at ot
  rw [(knP_a _ _).2.2] at oc
  have lt := OwnL.lsegA' Tk.cs_len ot (by decide)
  have lc := OwnL.lsegA' Cn.cs_len oc (by decide)
  obtain ⟨ta, tc, rfl⟩ := (show ∃ ao cap, tv = .slice ao 6 cap from ot.shape)
  obtain ⟨ca, cc, rfl⟩ := (show ∃ ao cap, cv = .slice ao 6 cap from oc.shape)
  obtain ⟨cb, co, rfl, clt, d0, d1, d2⟩ := seg_cn lc (k := 5) (x := ⟨3, 5, 0⟩) rfl
  have hx := below_box w2 (.cells #[.slice ta 6 tc, .slice (some ⟨cb, co, none⟩) 6 cc] 30)
  have Q2 : Hid (KQ w.heap.size w2.heap.size (.slice ta 6 tc) (.slice (some ⟨cb, co, none⟩) 6 cc) (w2.alloc (.cells #[.slice ta 6 tc, .slice (some ⟨cb, co, none⟩) 6 cc] 30))) := ⟨(K1.out.below b2).below hx, lt.below hx, lc.below hx, BoxT.new 30 w2 _⟩
  have B2 := hide (B1.out.trans ((b2.trans (hx.mono b2.size)).mono B1.out.size))
  clear ot oc lt lc b2 hx K1 B1 hsz d0 d1 d2
  have HG := hide (fun w => Group_any w 1)
  rw [(knP_b 0 0).2.2.2.2.1] at HG
  have p1 : prt 9 4 = 2 := (knP_b 0 0).2.2.2.2.2.1
  have p2 : prt 16 4 = 0 := (knP_b 0 0).2.2.2.2.2.2
  have c1 : (w2.alloc (.cells #[.slice ta 6 tc, .slice (some ⟨cb, co, none⟩) 6 cc] 30)).cell? ⟨w.heap.size + 1 + 1 + 1, 0, none⟩ = some (.slice (some ⟨w.heap.size + 1 + 1, 0, none⟩) 3 3) := by rw [Q2.out.k.x.cellAt]; rfl
  go_wp2_with (first
    | (go_at_call 22; refine (HG.out _).mono ?_; rintro e w3 ⟨rfl, rfl⟩)
    | (go_at_call 24; refine (Part_any _ _ _).mono ?_; rintro e w4 ⟨rfl, rfl⟩))
  refine (Keyed_any ((Q2.out.k.j).mono Q2.out.k.sz) 1).mono ?_
  rintro e w5 ⟨rfl, b5⟩
  rw [(knP_b _ _).1]
  obtain ⟨P, hP⟩ : ∃ P, w2.heap.size = P := ⟨_, rfl⟩
  rw [hP] at Q2
  have Q5 := hide (Q2.out.below b5)
  have B5 := hide (B2.out.trans (b5.mono B2.out.size))
  clear b5 Q2 B2 c1 HG
  have c5 : w5.cell? ⟨w.heap.size + 1 + 1 + 1, 0, none⟩ = some (.slice (some ⟨w.heap.size + 1 + 1, 0, none⟩) 3 3) := by rw [Q5.out.k.x.cellAt]; rfl
  go_wp2_with fail
  refine (Keyed_any ((Q5.out.k.j).mono Q5.out.k.sz) 0).mono ?_
  rintro e w6 ⟨rfl, b6⟩
  rw [(knP_b _ _).2.1]
  have Q6 := hide (Q5.out.below b6)
  have B6 := hide (B5.out.trans (b6.mono B5.out.size))
  clear b6 Q5 B5 c5
  have c6 : w6.cell? ⟨w.heap.size + 1 + 1 + 1, 0, none⟩ = some (.slice (some ⟨w.heap.size + 1 + 1, 0, none⟩) 3 3) := by rw [Q6.out.k.x.cellAt]; rfl
  have t6 : w6.cell? ⟨P, 0, none⟩ = some (.slice ta 6 tc) := by rw [Q6.out.px.cellAt]; rfl
  have u6 : w6.cell? ⟨P, 1, none⟩ = some (.slice (some ⟨cb, co, none⟩) 6 cc) := by rw [Q6.out.px.cellAt]; rfl
  obtain ⟨cb', co', hcc, -, d0, d1, d2⟩ := seg_cn Q6.out.c (k := 5) (x := ⟨3, 5, 0⟩) rfl
  cases hcc
  go_wp2_with fail
  have sP : P ≤ w6.heap.size := Nat.le_of_lt Q6.out.px.lt
  refine (Outs_any ((Q6.out.k.j).mono Q6.out.k.sz) (Q6.out.t.mono sP) (Q6.out.c.mono sP) (by decide) 0 1).mono ?_
  rintro e w7 ⟨u, rfl, o7, b7⟩
  rw [(knP_b _ _).2.2.1] at o7
  have Q7 := hide (Q6.out.below b7)
  have B7 := hide (B6.out.trans (b7.mono B6.out.size))
  have O7 := hide o7
  clear b7 o7 Q6 B6 c6 t6 u6 d0 d1 d2 sP p1 p2
  go_wp2_with fail
  have ba : Below w7.heap.size w7 (w7.alloc (.cells #[.int .i64 1] 3)) := (Below.refl _ _).alloc (Nat.le_refl _) _
  have Q8 := hide (Q7.out.below ba)
  have B8 := hide (B7.out.trans (ba.mono B7.out.size))
  refine (Ints_any (xs := [1]) (OwnN.lseg (OwnL.below O7.out ba) (by simp)) (LSeg.ofRow' (xs := ([1] : List Int)) (cap := 1) ic_len (BoxT.new 3 w7 _) (by simp) (by simp))).mono ?_
  rintro e w9 ⟨rfl, b9⟩
  have Q9 := hide (Q8.out.below b9)
  have B9 := hide (B8.out.trans (b9.mono B8.out.size))
  clear ba b9 Q7 B7 Q8 B8 O7
  have t9 : w9.cell? ⟨P, 0, none⟩ = some (.slice ta 6 tc) := by rw [Q9.out.px.cellAt]; rfl
  have u9 : w9.cell? ⟨P, 1, none⟩ = some (.slice (some ⟨cb, co, none⟩) 6 cc) := by rw [Q9.out.px.cellAt]; rfl
  go_wp2_with fail
  have sP : P ≤ w9.heap.size := Nat.le_of_lt Q9.out.px.lt
  refine (To_any (Q9.out.c.mono sP) (by decide) 2).mono ?_
  rintro e w10 ⟨u2, rfl, o10, b10⟩
  rw [(knP_b 0 0).2.2.2.1] at o10
  have B10 := hide (B9.out.trans (b10.mono B9.out.size))
  have O10 := hide o10
  clear b10 o10 Q9 B9 t9 u9 sP
  go_wp2_with fail
  have ba : Below w10.heap.size w10 (w10.alloc (.cells #[.int .i64 0, .int .i64 2] 3)) := (Below.refl _ _).alloc (Nat.le_refl _) _
  have B11 := hide (B10.out.trans (ba.mono B10.out.size))
  refine (Ints_any (xs := [0, 2]) (OwnN.lseg (OwnL.below O10.out ba) (by simp)) (LSeg.ofRow' (xs := ([0, 2] : List Int)) (cap := 2) ic_len (BoxT.new 3 w10 _) (by simp) (by simp))).mono ?_
  rintro e w12 ⟨rfl, b12⟩
  have B12 := hide (B11.out.trans (b12.mono B11.out.size))
  clear ba b12 B10 B11 O10
  go_wp2_with fail
  go_ret
  exact ⟨rfl, B12.out⟩
end Go.Proofs.Ytfiafbfbiidnlaa
