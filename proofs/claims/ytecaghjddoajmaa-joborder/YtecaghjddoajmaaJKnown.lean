/-
  known: the chapter's examples.
-/
import Derived.Test.YtecaghjddoajmaaJLogs2
namespace Go.Proofs.Ytecaghjddoajmaa
open Go.RowKit

theorem LSeg.ofRow {α : Type} {sz t : Nat} {cs : α → List Value} (hcs : ∀ x, (cs x).length = sz) {B : Nat} {w : World} {g cap : Nat} {cur : Array Value} {xs : List α} (hb : BoxT t w g cur) (hg : g < B) (hl : xs.length ≤ 140737488355328) (hc : ∀ (j : Nat) (u : Value), (xs.flatMap cs)[j]? = some u → cur[j]? = some u) :
    LSeg sz cs B w (.slice (some ⟨g, 0, none⟩) xs.length cap) xs := by
  refine ⟨_, cap, rfl, hl, .inr ⟨g, 0, rfl, hg, fun i x hx j u hu => ?_⟩⟩
  rw [hb.cellAt, Nat.zero_add]
  exact hc _ u (flat_get hcs xs i j x u hx hu)
theorem LSeg.ofRow' {α : Type} {sz t : Nat} {cs : α → List Value} (hcs : ∀ x, (cs x).length = sz) {B : Nat} {w : World} {g cap : Nat} {xs : List α} (hb : BoxT t w g (xs.flatMap cs).toArray) (hg : g < B) (hl : xs.length ≤ 140737488355328) :
    LSeg sz cs B w (.slice (some ⟨g, 0, none⟩) xs.length cap) xs := LSeg.ofRow hcs hb hg hl (fun j u h => by simpa using h)
theorem LSeg.none {α : Type} {sz : Nat} {cs : α → List Value} {B : Nat} {w : World} {c : Nat} : LSeg sz cs B w (.slice none 0 c) ([] : List α) := ⟨_, c, rfl, by simp, .inl rfl⟩

set_option maxHeartbeats 1000000 in
set_option maxRecDepth 100000 in
/-- Ints of equal lists. -/
theorem Ints_any {w : World} {va vb : Value} {xs : List Int} (ha : LSeg 1 ic w.heap.size w va xs) (hb : LSeg 1 ic w.heap.size w vb xs) :
    Calls Try.prog 12 #[va, vb] w fun e w' => e = .returned (.bool true) ∧ Below w.heap.size w w' := by
  obtain ⟨aa, ca, rfl⟩ := ha.shape
  obtain ⟨ab, cb, rfl⟩ := hb.shape
  have HA := hide ha
  have HB := hide hb
  have la := ha.len
  clear ha hb
  go_enter Try.func12, Try.ntmps12
  go_wp2_with fail
  go_loopg [5] (xs.length + 1) (fun g iv wr => ∃ i : Nat, i ≤ xs.length ∧ iv = .int .i64 i ∧ xs.length + 1 ≤ g + i ∧ Hid (Below w.heap.size w wr))
  case atStart => exact ⟨0, Nat.zero_le _, rfl, by omega, Below.refl _ _⟩
  case round =>
    obtain ⟨i, hi, rfl, hg, HI⟩ := hrel
    obtain ⟨go, rfl⟩ : ∃ go, gk = go + 1 := ⟨gk - 1, by omega⟩
    by_cases hlt : i < xs.length
    · obtain ⟨x, hx⟩ := get_of_lt hlt
      obtain ⟨b1, o1, rfl, -, c1⟩ := (HA.out.below HI.out).num hx
      obtain ⟨b2, o2, rfl, -, c2⟩ := (HB.out.below HI.out).num hx
      have bi : (i : Int) < (xs.length : Int) := by omega
      clear hx
      go_wp2
      go_region
      all_goals
        go_wp2
        go_roundg go
        case rel => exact ⟨i + 1, by omega, by go_num, by omega, HI.out.drew⟩
        case measure => omega
    · have bi : ¬ (i : Int) < (xs.length : Int) := by omega
      go_wp2
      go_ret
      exact ⟨rfl, HI.out⟩

/-- The chapter's jobs and logs. -/
def kn1 (a b : Nat) : List Nd := [⟨1, none, 0, [], 1, ⟨0, 0, none, 0, []⟩, 0, 0, 0, 0⟩, ⟨7, some ⟨a, 0, none⟩, 1, [0], 2, ⟨0, 0, none, 0, []⟩, 1, 2, 10, 3⟩, ⟨8, some ⟨b, 0, none⟩, 1, [1], 1, ⟨0, 0, none, 0, []⟩, 0, 0, 0, 0⟩]
def kn2 (a : Nat) : List Nd := [⟨5, some ⟨a, 0, none⟩, 1, [0], 1, ⟨0, 0, none, 0, []⟩, 0, 0, 0, 0⟩]
def kl1 (a b : Nat) : List En := [⟨some ⟨b, 0, none⟩, 1, [⟨some ⟨a, 0, none⟩, 1, [⟨2, 0, 0, 0, 9223372036854775807⟩]⟩]⟩, ⟨none, 0, []⟩, ⟨none, 0, []⟩]
theorem kn_a (a b : Nat) : errJ (kn1 a b) = 0 ∧ errW (kn1 a b) = 0 ∧ wts (kn1 a b) = [1, 4, 4] ∧ ordC ((kn1 a b).map Nd.ins) = [0, 1, 2] := ⟨by kernel_rfl, by kernel_rfl, by kernel_rfl, by kernel_rfl⟩
theorem kn_b (a : Nat) : errJ (kn2 a) = 83 := by kernel_rfl
theorem kn_c : errJ [] = 80 := by kernel_rfl
theorem kn_d (a b c d : Nat) : logE (kn1 a b) (kl1 c d) = 0 ∧ logE (kn1 a b) [] = 89 ∧ wholeB (kl1 c d) = true ∧ itemsN (kl1 c d) = 1 := ⟨by kernel_rfl, by kernel_rfl, by kernel_rfl, by kernel_rfl⟩
theorem ten (w : World) (o0 o1 o2 o3 o4 o5 o6 o7 o8 o9 : Obj) :
    ((((((((((w.alloc o0).alloc o1).alloc o2).alloc o3).alloc o4).alloc o5).alloc o6).alloc o7).alloc o8).alloc o9).heap[w.heap.size]? = some o0 ∧
    ((((((((((w.alloc o0).alloc o1).alloc o2).alloc o3).alloc o4).alloc o5).alloc o6).alloc o7).alloc o8).alloc o9).heap[w.heap.size + 1]? = some o1 ∧
    ((((((((((w.alloc o0).alloc o1).alloc o2).alloc o3).alloc o4).alloc o5).alloc o6).alloc o7).alloc o8).alloc o9).heap[w.heap.size + 1 + 1]? = some o2 ∧
    ((((((((((w.alloc o0).alloc o1).alloc o2).alloc o3).alloc o4).alloc o5).alloc o6).alloc o7).alloc o8).alloc o9).heap[w.heap.size + 1 + 1 + 1]? = some o3 ∧
    ((((((((((w.alloc o0).alloc o1).alloc o2).alloc o3).alloc o4).alloc o5).alloc o6).alloc o7).alloc o8).alloc o9).heap[w.heap.size + 1 + 1 + 1 + 1]? = some o4 ∧
    ((((((((((w.alloc o0).alloc o1).alloc o2).alloc o3).alloc o4).alloc o5).alloc o6).alloc o7).alloc o8).alloc o9).heap[w.heap.size + 1 + 1 + 1 + 1 + 1]? = some o5 ∧
    ((((((((((w.alloc o0).alloc o1).alloc o2).alloc o3).alloc o4).alloc o5).alloc o6).alloc o7).alloc o8).alloc o9).heap[w.heap.size + 1 + 1 + 1 + 1 + 1 + 1]? = some o6 ∧
    ((((((((((w.alloc o0).alloc o1).alloc o2).alloc o3).alloc o4).alloc o5).alloc o6).alloc o7).alloc o8).alloc o9).heap[w.heap.size + 1 + 1 + 1 + 1 + 1 + 1 + 1]? = some o7 ∧
    ((((((((((w.alloc o0).alloc o1).alloc o2).alloc o3).alloc o4).alloc o5).alloc o6).alloc o7).alloc o8).alloc o9).heap[w.heap.size + 1 + 1 + 1 + 1 + 1 + 1 + 1 + 1]? = some o8 ∧
    ((((((((((w.alloc o0).alloc o1).alloc o2).alloc o3).alloc o4).alloc o5).alloc o6).alloc o7).alloc o8).alloc o9).heap[w.heap.size + 1 + 1 + 1 + 1 + 1 + 1 + 1 + 1 + 1]? = some o9 := by
  have e : ((((((((((w.alloc o0).alloc o1).alloc o2).alloc o3).alloc o4).alloc o5).alloc o6).alloc o7).alloc o8).alloc o9).heap = (((((((((w.heap.push o0).push o1).push o2).push o3).push o4).push o5).push o6).push o7).push o8).push o9 := rfl
  rw [e]
  simp only [Array.getElem?_push, Array.size_push]
  refine ⟨?_, ?_, ?_, ?_, ?_, ?_, ?_, ?_, ?_, ?_⟩
  · rw [if_neg (by omega), if_neg (by omega), if_neg (by omega), if_neg (by omega), if_neg (by omega), if_neg (by omega), if_neg (by omega), if_neg (by omega), if_neg (by omega), if_pos trivial]
  · rw [if_neg (by omega), if_neg (by omega), if_neg (by omega), if_neg (by omega), if_neg (by omega), if_neg (by omega), if_neg (by omega), if_neg (by omega), if_pos trivial]
  · rw [if_neg (by omega), if_neg (by omega), if_neg (by omega), if_neg (by omega), if_neg (by omega), if_neg (by omega), if_neg (by omega), if_pos trivial]
  · rw [if_neg (by omega), if_neg (by omega), if_neg (by omega), if_neg (by omega), if_neg (by omega), if_neg (by omega), if_pos trivial]
  · rw [if_neg (by omega), if_neg (by omega), if_neg (by omega), if_neg (by omega), if_neg (by omega), if_pos trivial]
  · rw [if_neg (by omega), if_neg (by omega), if_neg (by omega), if_neg (by omega), if_pos trivial]
  · rw [if_neg (by omega), if_neg (by omega), if_neg (by omega), if_pos trivial]
  · rw [if_neg (by omega), if_neg (by omega), if_pos trivial]
  · rw [if_neg (by omega), if_pos trivial]
  · rw [if_pos trivial]
theorem step_any {F : FuncId} {args : Array Value} {w : World} {Q : Ending → World → Prop} (h : ∀ w1, w1 = w → Calls Try.prog F args w1 Q) : Calls Try.prog F args w Q := h w rfl
theorem tenBelow (w : World) (o0 o1 o2 o3 o4 o5 o6 o7 o8 o9 : Obj) : Below w.heap.size w ((((((((((w.alloc o0).alloc o1).alloc o2).alloc o3).alloc o4).alloc o5).alloc o6).alloc o7).alloc o8).alloc o9) :=
  (((((((((((Below.refl w.heap.size w).alloc (Nat.le_refl _) _).alloc (by simp) _).alloc (by simp; omega) _).alloc (by simp; omega) _).alloc (by simp; omega) _).alloc (by simp; omega) _).alloc (by simp; omega) _).alloc (by simp; omega) _).alloc (by simp; omega) _).alloc (by simp; omega) _)
/-- What lies where known has made it. -/
structure Kn (b : Nat) (w : World) : Prop where
  j1 : JobIn (b + 10) w (.slice (some ⟨b + 1 + 1, 0, none⟩) 3 3) (kn1 b (b + 1))
  x1 : BoxT 24 w (b + 1 + 1 + 1) #[.slice (some ⟨b + 1 + 1, 0, none⟩) 3 3]
  j2 : JobIn (b + 10) w (.slice (some ⟨b + 1 + 1 + 1 + 1 + 1, 0, none⟩) 1 1) (kn2 (b + 1 + 1 + 1 + 1))
  x2 : BoxT 24 w (b + 1 + 1 + 1 + 1 + 1 + 1) #[.slice (some ⟨b + 1 + 1 + 1 + 1 + 1, 0, none⟩) 1 1]
  l1 : LogIn (b + 10) w (.slice (some ⟨b + 1 + 1 + 1 + 1 + 1 + 1 + 1 + 1 + 1, 0, none⟩) 3 3) (kl1 (b + 1 + 1 + 1 + 1 + 1 + 1 + 1) (b + 1 + 1 + 1 + 1 + 1 + 1 + 1 + 1))
  sz : b + 10 ≤ w.heap.size
theorem Kn.below {b : Nat} {w w' : World} (h : Kn b w) (hb : Below w.heap.size w w') : Kn b w' :=
  ⟨h.j1.below (hb.mono h.sz), h.x1.below hb, h.j2.below (hb.mono h.sz), h.x2.below hb, h.l1.below (hb.mono h.sz), Nat.le_trans h.sz hb.size⟩
theorem ExOk.noE {w : World} {ns : List Nd} (h : ∀ n ∈ ns, ¬ (2 ≤ n.kind ∧ n.kind ≤ 4)) : ExOk w ns := fun n hn hk => absurd hk (h n hn)
theorem kn1_noE (a b : Nat) : ∀ n ∈ kn1 a b, ¬ (2 ≤ n.kind ∧ n.kind ≤ 4) := by
  intro n hn
  simp only [kn1, List.mem_cons, List.not_mem_nil, or_false] at hn
  rcases hn with rfl | rfl | rfl <;> simp
theorem kn2_noE (a : Nat) : ∀ n ∈ kn2 a, ¬ (2 ≤ n.kind ∧ n.kind ≤ 4) := by
  intro n hn
  simp only [kn2, List.mem_cons, List.not_mem_nil, or_false] at hn
  rcases hn with rfl
  simp
theorem OwnN.lseg {base : Nat} {w : World} {v : Value} {l : List Nat} (h : OwnN base w v l) (hl : l.length ≤ 1000) : LSeg 1 ic w.heap.size w v (l.map Int.ofNat) := by
  rcases h.2 with ⟨rfl, h0⟩ | ⟨g, cap, cur, h1, h2, h3, h4, h5, h6, h7⟩
  · rw [List.length_eq_zero_iff.1 h0]; exact LSeg.none
  · by_cases hn : l = []
    · subst hn; subst h1; exact ⟨_, cap, rfl, by simp, .inl rfl⟩
    · obtain ⟨g, cap, cur, rfl, _, hb, _, _, _, hat⟩ := OwnN.row h hn
      refine ⟨_, cap, by simp, by simp; omega, .inr ⟨g, 0, rfl, hb.lt, fun i x hx j u hu => ?_⟩⟩
      rw [List.getElem?_map] at hx
      obtain ⟨y, hy, rfl⟩ := Option.map_eq_some_iff.1 hx
      match j, hu with
      | 0, hu =>
        simp [ic] at hu
        subst hu
        rw [hb.cellAt]
        simpa using hat i y hy
theorem BoxT.lsegN {w : World} {G : Nat} {ws : List Nat} {c : Nat} (h : BoxT 3 w G (ws.map fun x : Nat => Value.int .i64 (x : Int)).toArray) (hl : ws.length ≤ 1000) : LSeg 1 ic w.heap.size w (.slice (some ⟨G, 0, none⟩) ws.length c) (ws.map Int.ofNat) := by
  refine ⟨_, c, by simp, by simp; omega, .inr ⟨G, 0, rfl, h.lt, fun i x hx j u hu => ?_⟩⟩
  rw [List.getElem?_map] at hx
  obtain ⟨y, hy, rfl⟩ := Option.map_eq_some_iff.1 hx
  match j, hu with
  | 0, hu =>
    simp [ic] at hu
    subst hu
    rw [h.cellAt]
    simp [hy]

set_option maxHeartbeats 4000000 in
set_option maxRecDepth 100000 in
theorem known_any (w : World) : Calls Try.prog 8 #[] w fun e w' => e = .returned (.bool true) ∧ Below w.heap.size w w' := by
  go_enter Try.func8, Try.ntmps8
  go_wp2_with fail
  refine step_any ?_
  intro w1 hw1
  have f0 : BoxT 3 w1 w.heap.size (([0] : List Int).flatMap ic).toArray := by unfold BoxT; rw [hw1]; exact (ten _ _ _ _ _ _ _ _ _ _ _).1
  have f1 : BoxT 3 w1 (w.heap.size + 1) (([1] : List Int).flatMap ic).toArray := by unfold BoxT; rw [hw1]; exact (ten _ _ _ _ _ _ _ _ _ _ _).2.1
  have f2 : BoxT 49 w1 (w.heap.size + 1 + 1) ((kn1 w.heap.size (w.heap.size + 1)).flatMap Nd.cs).toArray := by unfold BoxT; rw [hw1]; exact (ten _ _ _ _ _ _ _ _ _ _ _).2.2.1
  have f3 : BoxT 24 w1 (w.heap.size + 1 + 1 + 1) #[.slice (some ⟨w.heap.size + 1 + 1, 0, none⟩) 3 3] := by unfold BoxT; rw [hw1]; exact (ten _ _ _ _ _ _ _ _ _ _ _).2.2.2.1
  have f4 : BoxT 3 w1 (w.heap.size + 1 + 1 + 1 + 1) (([0] : List Int).flatMap ic).toArray := by unfold BoxT; rw [hw1]; exact (ten _ _ _ _ _ _ _ _ _ _ _).2.2.2.2.1
  have f5 : BoxT 49 w1 (w.heap.size + 1 + 1 + 1 + 1 + 1) ((kn2 (w.heap.size + 1 + 1 + 1 + 1)).flatMap Nd.cs).toArray := by unfold BoxT; rw [hw1]; exact (ten _ _ _ _ _ _ _ _ _ _ _).2.2.2.2.2.1
  have f6 : BoxT 24 w1 (w.heap.size + 1 + 1 + 1 + 1 + 1 + 1) #[.slice (some ⟨w.heap.size + 1 + 1 + 1 + 1 + 1, 0, none⟩) 1 1] := by unfold BoxT; rw [hw1]; exact (ten _ _ _ _ _ _ _ _ _ _ _).2.2.2.2.2.2.1
  have f7 : BoxT 57 w1 (w.heap.size + 1 + 1 + 1 + 1 + 1 + 1 + 1) (([⟨2, 0, 0, 0, 9223372036854775807⟩] : List It).flatMap It.cs).toArray := by unfold BoxT; rw [hw1]; exact (ten _ _ _ _ _ _ _ _ _ _ _).2.2.2.2.2.2.2.1
  have f8 : BoxT 36 w1 (w.heap.size + 1 + 1 + 1 + 1 + 1 + 1 + 1 + 1) (([⟨some ⟨w.heap.size + 1 + 1 + 1 + 1 + 1 + 1 + 1, 0, none⟩, 1, [⟨2, 0, 0, 0, 9223372036854775807⟩]⟩] : List Pt).flatMap Pt.cs).toArray := by unfold BoxT; rw [hw1]; exact (ten _ _ _ _ _ _ _ _ _ _ _).2.2.2.2.2.2.2.2.1
  have f9 : BoxT 35 w1 (w.heap.size + 1 + 1 + 1 + 1 + 1 + 1 + 1 + 1 + 1) ((kl1 (w.heap.size + 1 + 1 + 1 + 1 + 1 + 1 + 1) (w.heap.size + 1 + 1 + 1 + 1 + 1 + 1 + 1 + 1)).flatMap En.cs).toArray := by unfold BoxT; rw [hw1]; exact (ten _ _ _ _ _ _ _ _ _ _ _).2.2.2.2.2.2.2.2.2
  have B1 := hide (show Below w.heap.size w w1 by rw [hw1]; exact tenBelow _ _ _ _ _ _ _ _ _ _ _)
  have hsz := f9.lt
  clear hw1
  have K1 : Hid (Kn w.heap.size w1) := by
    refine ⟨⟨LSeg.ofRow' (xs := kn1 w.heap.size (w.heap.size + 1)) (cap := 3) Nd.cs_len f2 (by omega) (by simp [kn1]), fun n hn => ?_⟩, f3, ⟨LSeg.ofRow' (xs := kn2 (w.heap.size + 1 + 1 + 1 + 1)) (cap := 1) Nd.cs_len f5 (by omega) (by simp [kn2]), fun n hn => ?_⟩, f6, ⟨LSeg.ofRow' (xs := kl1 (w.heap.size + 1 + 1 + 1 + 1 + 1 + 1 + 1) (w.heap.size + 1 + 1 + 1 + 1 + 1 + 1 + 1 + 1)) (cap := 3) En.cs_len f9 (by omega) (by simp [kl1]), fun e he => ?_⟩, by omega⟩
    · simp only [kn1, List.mem_cons, List.not_mem_nil, or_false] at hn
      rcases hn with rfl | rfl | rfl
      · exact LSeg.none
      · exact LSeg.ofRow' (xs := [0]) (cap := 1) ic_len f0 (by omega) (by simp)
      · exact LSeg.ofRow' (xs := [1]) (cap := 1) ic_len f1 (by omega) (by simp)
    · simp only [kn2, List.mem_cons, List.not_mem_nil, or_false] at hn
      rcases hn with rfl
      exact LSeg.ofRow' (xs := [0]) (cap := 1) ic_len f4 (by omega) (by simp)
    · simp only [kl1, List.mem_cons, List.not_mem_nil, or_false] at he
      rcases he with rfl | rfl | rfl
      · refine ⟨LSeg.ofRow' (xs := [_]) (cap := 1) Pt.cs_len f8 (by omega) (by simp), fun p hp => ?_⟩
        simp only [List.mem_cons, List.not_mem_nil, or_false] at hp
        rcases hp with rfl
        exact LSeg.ofRow' (xs := [_]) (cap := 1) It.cs_len f7 (by omega) (by simp)
      · exact ⟨LSeg.none, fun p hp => by cases hp⟩
      · exact ⟨LSeg.none, fun p hp => by cases hp⟩
  clear f0 f1 f2 f3 f4 f5 f6 f7 f8 f9 hsz
  refine (Check_any ((K1.out.j1).mono K1.out.sz) (.noE (kn1_noE _ _))).mono ?_
  rintro e w2 ⟨rfl, b2⟩
  rw [(kn_a _ _).1]
  have K2 := hide (K1.out.below b2)
  have B2 := hide (B1.out.trans (b2.mono B1.out.size))
  have c2 : w2.cell? ⟨w.heap.size + 1 + 1 + 1, 0, none⟩ = some (.slice (some ⟨w.heap.size + 1 + 1, 0, none⟩) 3 3) := by rw [K2.out.x1.cellAt]; rfl
  clear b2 K1 B1
  go_wp2_with fail
  refine (Weights_any ((K2.out.j1).mono K2.out.sz) (.noE (kn1_noE _ _))).mono ?_
  rintro e w3 ⟨u, rfl, hw, b3⟩
  obtain ⟨G, rfl, hG, hbx⟩ := (show ∃ G, u = .slice (some ⟨G, 0, none⟩) _ _ ∧ _ ∧ _ from hw.elim (fun h => absurd (kn_a _ _).2.1 h.1) (fun h => h.2))
  rw [(kn_a _ _).2.2.1] at hbx
  have K3 := hide (K2.out.below b3)
  have B3 := hide (B2.out.trans (b3.mono B2.out.size))
  have HG := hide hbx
  clear b3 K2 B2 c2 hw hG hbx
  have c3 : w3.cell? ⟨w.heap.size + 1 + 1 + 1, 0, none⟩ = some (.slice (some ⟨w.heap.size + 1 + 1, 0, none⟩) 3 3) := by rw [K3.out.x1.cellAt]; rfl
  go_wp2_with fail
  have ba : Below w3.heap.size w3 (w3.alloc (.cells #[.int .i64 1, .int .i64 4, .int .i64 4] 3)) := (Below.refl _ _).alloc (Nat.le_refl _) _
  have K4 := hide (K3.out.below ba)
  have B4 := hide (B3.out.trans (ba.mono B3.out.size))
  refine (Ints_any (xs := [1, 4, 4]) ((HG.out.below ba).lsegN (by simp)) (LSeg.ofRow' (xs := ([1, 4, 4] : List Int)) (cap := 3) ic_len (BoxT.new 3 w3 _) (by simp) (by simp))).mono ?_
  rintro e w5 ⟨rfl, b5⟩
  have K5 := hide (K4.out.below b5)
  have B5 := hide (B4.out.trans (b5.mono B4.out.size))
  clear ba b5 K3 B3 K4 B4 c3 HG
  have c5 : w5.cell? ⟨w.heap.size + 1 + 1 + 1, 0, none⟩ = some (.slice (some ⟨w.heap.size + 1 + 1, 0, none⟩) 3 3) := by rw [K5.out.x1.cellAt]; rfl
  go_wp2_with fail
  refine (Order_any ((K5.out.j1).mono K5.out.sz) (by simp [kn1])).mono ?_
  rintro e w6 ⟨rv, rfl, o6, b6⟩
  rw [(kn_a _ _).2.2.2] at o6
  have K6 := hide (K5.out.below b6)
  have B6 := hide (B5.out.trans (b6.mono B5.out.size))
  have HO := hide o6
  clear b6 o6 K5 B5 c5
  go_wp2_with fail
  have ba : Below w6.heap.size w6 (w6.alloc (.cells #[.int .i64 0, .int .i64 1, .int .i64 2] 3)) := (Below.refl _ _).alloc (Nat.le_refl _) _
  have K7 := hide (K6.out.below ba)
  have B7 := hide (B6.out.trans (ba.mono B6.out.size))
  refine (Ints_any (xs := [0, 1, 2]) (OwnN.lseg (HO.out.below ba) (by simp)) (LSeg.ofRow' (xs := ([0, 1, 2] : List Int)) (cap := 3) ic_len (BoxT.new 3 w6 _) (by simp) (by simp))).mono ?_
  rintro e w8 ⟨rfl, b8⟩
  have K8 := hide (K7.out.below b8)
  have B8 := hide (B7.out.trans (b8.mono B7.out.size))
  clear ba b8 K6 B6 K7 B7 HO
  have c8 : w8.cell? ⟨w.heap.size + 1 + 1 + 1 + 1 + 1 + 1, 0, none⟩ = some (.slice (some ⟨w.heap.size + 1 + 1 + 1 + 1 + 1, 0, none⟩) 1 1) := by rw [K8.out.x2.cellAt]; rfl
  go_wp2_with fail
  refine (Check_any ((K8.out.j2).mono K8.out.sz) (.noE (kn2_noE _))).mono ?_
  rintro e w9 ⟨rfl, b9⟩
  rw [kn_b]
  have K9 := hide (K8.out.below b9)
  have B9 := hide (B8.out.trans (b9.mono B8.out.size))
  clear b9 K8 B8 c8
  go_wp2_with fail
  refine (Check_any (ns := []) ⟨LSeg.none, fun n hn => by cases hn⟩ (.noE (fun n hn => by cases hn))).mono ?_
  rintro e w10 ⟨rfl, b10⟩
  rw [kn_c]
  have K10 := hide (K9.out.below b10)
  have B10 := hide (B9.out.trans (b10.mono B9.out.size))
  clear b10 K9 B9
  have c10 : w10.cell? ⟨w.heap.size + 1 + 1 + 1, 0, none⟩ = some (.slice (some ⟨w.heap.size + 1 + 1, 0, none⟩) 3 3) := by rw [K10.out.x1.cellAt]; rfl
  go_wp2_with fail
  refine (Logs_any ((K10.out.j1).mono K10.out.sz) ((K10.out.l1).mono K10.out.sz)).mono ?_
  rintro e w11 ⟨rfl, b11⟩
  rw [(kn_d _ _ _ _).1]
  have K11 := hide (K10.out.below b11)
  have B11 := hide (B10.out.trans (b11.mono B10.out.size))
  clear b11 K10 B10 c10
  have c11 : w11.cell? ⟨w.heap.size + 1 + 1 + 1, 0, none⟩ = some (.slice (some ⟨w.heap.size + 1 + 1, 0, none⟩) 3 3) := by rw [K11.out.x1.cellAt]; rfl
  go_wp2_with fail
  refine (Logs_any (ls := []) ((K11.out.j1).mono K11.out.sz) ⟨LSeg.none, fun e he => by cases he⟩).mono ?_
  rintro e w12 ⟨rfl, b12⟩
  rw [(kn_d _ _ 0 0).2.1]
  have K12 := hide (K11.out.below b12)
  have B12 := hide (B11.out.trans (b12.mono B11.out.size))
  clear b12 K11 B11 c11
  go_wp2_with fail
  refine (Whole_any ((K12.out.l1).mono K12.out.sz)).mono ?_
  rintro e w13 ⟨rfl, b13⟩
  rw [(kn_d 0 0 _ _).2.2.1]
  have K13 := hide (K12.out.below b13)
  have B13 := hide (B12.out.trans (b13.mono B12.out.size))
  clear b13 K12 B12
  go_wp2_with fail
  refine (Items_any ((K13.out.l1).mono K13.out.sz) (by rw [(kn_d 0 0 _ _).2.2.2]; omega)).mono ?_
  rintro e w14 ⟨rfl, rfl⟩
  rw [(kn_d 0 0 _ _).2.2.2]
  go_wp2_with fail
  go_ret
  exact ⟨rfl, B13.out⟩
end Go.Proofs.Ytecaghjddoajmaa
