/-
  Texts in build order: SKnown.
-/
import Derived.Test.YtdoldohcimbdaaaGreatM34
/-
  The chapter's examples.
-/
namespace Go.Proofs.YtdoldohcimbdaaaGreat
open Go.RowKit

theorem come_one {s : Bool} {J : Int → Int → Int} (hc : ∀ x y, J x y = J y x) (ha : ∀ x y z, J (J x y) z = J x (J y z)) {x : Pn} {M : List Pn} (h : Comes s J [x] M) : M = [x] :=
  List.perm_singleton.1 (Comes.unique hc ha h (Comes.refl (List.pairwise_singleton _ _)))
theorem come_two {s : Bool} {J : Int → Int → Int} (hc : ∀ x y, J x y = J y x) (ha : ∀ x y z, J (J x y) z = J x (J y z)) {x y : Pn} {M : List Pn} (h : Comes s J [x, y] M) (hm : mt s x y) : M = [jp J x y] :=
  List.perm_singleton.1 (Comes.unique hc ha h ⟨⟨1, _, ⟨x, y, [], hm, .refl _, .refl _⟩, .refl _⟩, List.pairwise_singleton _ _⟩)
def kP : Pn := ⟨1, 0, 10, 7⟩
theorem lit_seg {α : Type} {sz : Nat} {cs : α → List Value} {t : TypeId} {w : World} {k cap : Nat} {cur : Array Value} (xs : List α) (hcs : ∀ x, (cs x).length = sz) (hk : k = w.heap.size) (hcur : (xs.flatMap cs).toArray = cur) (hl : xs.length ≤ 1000000) : LSeg sz cs (k + 1) (w.alloc (.cells cur t)) (.slice (some ⟨k, 0, none⟩) xs.length cap) xs := by
  subst hk hcur
  refine ⟨_, cap, rfl, by omega, .inr ⟨w.heap.size, 0, rfl, by omega, fun i x hi j u hu => ?_⟩⟩
  rw [(BoxT.new t w _).cellAt, Nat.zero_add]
  have := flat_get hcs xs i j x u hi hu
  simpa using this
theorem kf1 : frS 1 10 0 1 ⟨1, 3, 5⟩ = [⟨1, 0, 10, 5⟩] := by kernel_rfl
theorem kf2 : frS 1 10 0 1 ⟨1, 7, 2⟩ = [⟨1, 0, 10, 2⟩] := by kernel_rfl
theorem ks1 : sps 1 10 0 3 = [⟨0, 10⟩] := by kernel_rfl
theorem ks2 : sps 1 10 0 7 = [⟨0, 10⟩] := by kernel_rfl
theorem kj : jp (jn 1) ⟨1, 0, 10, 2⟩ ⟨1, 0, 10, 5⟩ = kP := by kernel_rfl
theorem ksrt : srt [kP] = [kP] := by kernel_rfl
def kB : List Nat := [0, 0, 0, 1, 0, 0, 0, 0, 0, 0, 0, 1, 0, 0, 0, 0, 0, 0, 0, 0, 0, 0, 0, 0, 0, 0, 0, 10, 0, 0, 0, 0, 0, 0, 0, 7]
theorem kwr : wrB [kP] = kB := by kernel_rfl
theorem krd : rdP kB = [kP] := by kernel_rfl
theorem kok : rdOk kB := ⟨by decide, by kernel_rfl⟩
theorem kno : ¬ rdOk (kB.take 18) := fun h => absurd h.2 (by decide +kernel)
theorem kout : outF 9 (srt ([kP].filter (ovr 9))) = [⟨1, 9, 7⟩] := by kernel_rfl
theorem kleft : leftF 9 [kP] = [] := by kernel_rfl
theorem knext : nextP [kP] = 9 := by kernel_rfl
theorem in64_sm {x : Int} (h : -1000 ≤ x ∧ x ≤ 1000) : In64 x := by unfold In64; omega
/-- The example's state. -/
structure KI (w W : World) (s : Nat) (fp : Nat → Prop) (M : List Pn) : Prop where
  sa : SA W s 1 10 0 1 fp M
  nw : ∀ i, fp i → w.heap.size + 1 ≤ i
  bl : Below w.heap.size w W
  bx : BoxT 23 W w.heap.size #[.int .i64 1, .int .i64 10, .int .i64 0]
theorem KI.turn {w W W' : World} {s : Nat} {fp fp' : Nat → Prop} {M M' : List Pn} (h : KI w W s fp M) (hs : SA W' s 1 10 0 1 fp' M') (hf : FT fp fp' W W') : KI w W' s fp' M' := by
  have h1 := h.bl.size
  have hlt := h.bx.lt
  refine ⟨hs, fun i hi => ?_, h.bl.trans (hf.below h1 (fun i hi => by have := h.nw i hi; omega)), ?_⟩
  · rcases hf.sub i hi with e | e
    · exact h.nw i e
    · omega
  · have := h.bx
    unfold BoxT at *
    rw [hf.block _ hlt (fun e => by have := h.nw _ e; omega)]
    exact this
theorem KI.grow {w W W' : World} {s : Nat} {fp : Nat → Prop} {M : List Pn} (h : KI w W s fp M) (hb : Below W.heap.size W W') : KI w W' s fp M :=
  ⟨h.sa.below hb, h.nw, h.bl.trans (hb.mono h.bl.size), BoxT.below (t := 23) h.bx hb⟩
theorem kPut1 {w W : World} {s : Nat} {fp : Nat → Prop} (h : KI w W s fp []) : Calls Tryz.prog 10 #[.pointer (some ⟨s, 0, none⟩), .agg #[.int .i64 1, .int .i64 3, .int .i64 5]] W fun e w' => e = .returned (.tuple #[]) ∧ ∃ fp', KI w w' s fp' [⟨1, 0, 10, 5⟩] := by
  refine (Put_any h.sa (in64_sm (by omega)) (in64_sm (by omega)) ⟨1, 3, 5⟩ (in64_sm (by simp)) (in64_sm (by simp)) ?_ (by simp) .nil).mono ?_
  · intro sp hsp
    rw [ks1, List.mem_singleton] at hsp
    subst hsp
    exact ⟨in64_sm (by simp), in64_sm (by simp), fun e => by cases e⟩
  · rintro e w' ⟨rfl, fp', M', h1, h2, h3⟩
    rw [kf1, List.append_nil] at h3
    obtain rfl := come_one (jn_comm 1) (jn_assoc 1) h3
    exact ⟨rfl, fp', h.turn h1 h2⟩
theorem kPut2 {w W : World} {s : Nat} {fp : Nat → Prop} (h : KI w W s fp [⟨1, 0, 10, 5⟩]) : Calls Tryz.prog 10 #[.pointer (some ⟨s, 0, none⟩), .agg #[.int .i64 1, .int .i64 7, .int .i64 2]] W fun e w' => e = .returned (.tuple #[]) ∧ ∃ fp', KI w w' s fp' [kP] := by
  refine (Put_any h.sa (in64_sm (by omega)) (in64_sm (by omega)) ⟨1, 7, 2⟩ (in64_sm (by simp)) (in64_sm (by simp)) ?_ (by simp) (List.pairwise_singleton _ _)).mono ?_
  · intro sp hsp
    rw [ks2, List.mem_singleton] at hsp
    subst hsp
    exact ⟨in64_sm (by simp), in64_sm (by simp), fun e => by cases e⟩
  · rintro e w' ⟨rfl, fp', M', h1, h2, h3⟩
    rw [kf2] at h3
    have h4 := come_two (jn_comm 1) (jn_assoc 1) h3 ⟨rfl, .inr ⟨rfl, rfl, rfl⟩⟩
    rw [kj] at h4
    subst h4
    exact ⟨rfl, fp', h.turn h1 h2⟩
theorem OwnL.bys {base : Nat} {w : World} {v : Value} {l : List Nat} (h : OwnL 5 1 u8cs base w v l) (h4 : 4 ≤ l.length) (hb : ∀ x ∈ l, x < 256) : ∃ b cap, v = .slice (some ⟨b, 0, none⟩) l.length cap ∧ BSeg w.heap.size w b 0 cap l := by
  rcases h.2 with ⟨_, e⟩ | ⟨g, cap, cur, rfl, h2, h3, h4', h5, h6, h7⟩
  · omega
  · have hbx : BoxT 5 w g cur := h3
    refine ⟨g, cap, rfl, hbx.lt, h4', h5, hb, fun i x hx => ?_⟩
    rw [hbx.cellAt, Nat.zero_add]
    have h8 := flat_get u8cs_len l i 0 x (.int .u8 (x : Int)) hx rfl
    rw [← h7, List.getElem?_take] at h8
    split at h8
    · simpa using h8
    · cases h8
theorem BSeg.pre {B : Nat} {w : World} {b off cap : Nat} {l : List Nat} (h : BSeg B w b off cap l) {n : Nat} (hn : n ≤ l.length) : BSeg B w b off cap (l.take n) :=
  ⟨h.1, by rw [List.length_take]; have := h.2.1; omega, h.2.2.1, fun x hx => h.2.2.2.1 x (List.mem_of_mem_take hx), fun i x hx => by
    rw [List.getElem?_take] at hx
    split at hx
    · exact h.2.2.2.2 i x hx
    · cases hx⟩
theorem kOpen {W : World} {v : Value} (h : ByS W v kB) : Calls Tryz.prog 17 #[.agg #[.int .i64 1, .int .i64 10, .int .i64 0], .int .i64 1, v] W fun e w' => ∃ s fp, e = .returned (.tuple #[.pointer (some ⟨s, 0, none⟩), .int .i64 0]) ∧ SA w' s 1 10 0 1 fp [kP] ∧ (∀ i, fp i → W.heap.size ≤ i) ∧ Below W.heap.size W w' := by
  refine (Open_any 1 10 0 1 h (by decide) (fun e => by cases e)).mono ?_
  rintro e w' ⟨b1, ⟨rfl, h2 | ⟨M, h2, h3⟩⟩ | ⟨h1, s, fp, M, rfl, h3, h4, h5, h6⟩⟩
  · exact absurd kok h2
  · rw [krd] at h2
    obtain rfl := come_one (jn_comm 1) (jn_assoc 1) h2
    rw [ksrt, kwr] at h3
    exact absurd rfl h3
  · rw [krd] at h5
    obtain rfl := come_one (jn_comm 1) (jn_assoc 1) h5
    exact ⟨s, fp, rfl, h3, h4, b1⟩
theorem kOpen2 {W : World} {v : Value} (h : ByS W v (kB.take 18)) : Calls Tryz.prog 17 #[.agg #[.int .i64 1, .int .i64 10, .int .i64 0], .int .i64 1, v] W fun e w' => e = .returned (.tuple #[.pointer none, .int .i64 120]) ∧ Below W.heap.size W w' := by
  refine (Open_any 1 10 0 1 h (by decide) (fun e => by cases e)).mono ?_
  rintro e w' ⟨b1, ⟨rfl, _⟩ | ⟨h1, _⟩⟩
  · exact ⟨rfl, b1⟩
  · exact absurd h1 kno
theorem kFire {w W : World} {s : Nat} {fp : Nat → Prop} (h : KI w W s fp [kP]) : Calls Tryz.prog 14 #[.pointer (some ⟨s, 0, none⟩), .int .i64 9] W fun e w' => ∃ u fp', e = .returned u ∧ OwnL 39 3 Rc.cs W.heap.size w' u [⟨1, 9, 7⟩] ∧ KI w w' s fp' [] ∧ FT fp fp' W w' := by
  obtain ⟨m, o, fq, R, hst, hf⟩ := h.sa
  refine (Fire_win hst 9 (by omega) (by simp)).mono ?_
  rintro e w' ⟨u, E, rfl, h1, h2, h3⟩
  rw [kout] at h1
  rw [kleft] at h2
  have hft : FT fp (FP s m fq) W w' := h3.congr hf (fun _ => Iff.rfl)
  exact ⟨u, FP s m fq, rfl, h1, h.turn ⟨m, o, fq, E, h2, fun _ => Iff.rfl⟩ hft, hft⟩
theorem kLen1 {W : World} {s : Nat} {fp : Nat → Prop} (h : SA W s 1 10 0 1 fp [kP]) : Calls Tryz.prog 21 #[.pointer (some ⟨s, 0, none⟩)] W fun e w' => e = .returned (.int .i64 1) ∧ w' = W := Len_any h
theorem kLen0 {W : World} {s : Nat} {fp : Nat → Prop} (h : SA W s 1 10 0 1 fp []) : Calls Tryz.prog 21 #[.pointer (some ⟨s, 0, none⟩)] W fun e w' => e = .returned (.int .i64 0) ∧ w' = W := Len_any h
end Go.Proofs.YtdoldohcimbdaaaGreat
