/-
  The document's node: of nodes that have no fault.
-/
import Derived.Test.YtfiafbfbiidnlaaJBuild
import Derived.Test.YtfiafbfbiidnlaaJRefOrd
namespace Go.Proofs.Ytfiafbfbiidnlaa
open Go.RowKit

set_option maxRecDepth 100000 in
theorem zero_any (w : World) : Calls Try.prog 57 #[.agg #[.int .i64 0, .int .i64 0, .slice none 0 0]] w fun e w' => e = .returned (.bool true) ∧ Below w.heap.size w w' := by
  have hb : Below w.heap.size w (w.alloc (.cells #[.int .i64 0, .int .i64 0, .slice none 0 0] 50)) := (Below.refl _ _).alloc (Nat.le_refl _) _
  have HB := hide hb
  clear hb
  go_enter Try.func57, Try.ntmps57
  go_wp2
  go_ret
  exact ⟨rfl, HB.out⟩
/-- A node of one of five kinds, as a law makes it. -/
def Shp (n : Nd) : Prop :=
  n.e = e0 ∧ n.par = 1 ∧
    ((n.kind = 1 ∧ n.ins.length = 0 ∧ n.agg = 0 ∧ n.wk = 0 ∧ n.ws = 0 ∧ n.wl = 0) ∨ (n.kind = 5 ∧ (1 ≤ n.ins.length ∧ n.ins.length ≤ 4) ∧ n.agg = 0 ∧ n.wk = 0 ∧ n.ws = 0 ∧ n.wl = 0) ∨
      (n.kind = 6 ∧ n.ins.length = 1 ∧ n.agg = 4 ∧ n.wk = 0 ∧ n.ws = 0 ∧ n.wl = 0) ∨ (n.kind = 7 ∧ n.ins.length = 1 ∧ n.agg = 1 ∧ n.wk = 2 ∧ (1 ≤ n.ws ∧ n.ws ≤ 7) ∧ (1 ≤ n.wl ∧ n.wl ≤ 4)) ∨ (n.kind = 8 ∧ n.ins.length = 1 ∧ n.agg = 0 ∧ n.wk = 0 ∧ n.ws = 0 ∧ n.wl = 0))
/-- Its inputs are there, and no sink. -/
def InOk (ns : List Nd) (n : Nd) : Prop := ∀ x ∈ n.ins, ∃ (f : Nat) (m : Nd), x = (f : Int) ∧ ns[f]? = some m ∧ m.kind ≠ 8
set_option maxHeartbeats 8000000 in
set_option maxRecDepth 100000 in
theorem node_any {B : Nat} {w : World} {v : Value} {ns : List Nd} (n : Nd) (hs : Shp n) (ho : InOk ns n) (hj : JobIn B w v ns) (hi : LSeg 1 ic B w (.slice n.ia n.ins.length n.ic) n.ins) (hB : B ≤ w.heap.size) :
    Calls Try.prog 49 #[.agg #[v], n.val] w fun e w' => e = .returned (.int .i64 0) ∧ Below w.heap.size w w' := by
  obtain ⟨na, ncp, rfl⟩ := hj.shape
  have hb : Below w.heap.size w ((w.alloc (.cells #[.slice na ns.length ncp] 24)).alloc (.cells n.cs.toArray 54)) := ((Below.refl _ _).alloc (Nat.le_refl _) _).alloc (by simp) _
  have HB := hide hb
  have HX := hide ((BoxT.new 24 w #[.slice na ns.length ncp]).alloc (.cells n.cs.toArray 54))
  have HY : Hid (BoxT 54 ((w.alloc (.cells #[.slice na ns.length ncp] 24)).alloc (.cells n.cs.toArray 54)) (w.heap.size + 1) n.cs.toArray) := BoxT.new_at (by simp)
  have HJ := hide hj
  have HI := hide hi
  have HW := hide hB
  have HO := hide ho
  clear hb hj hi hB ho
  obtain ⟨kd, ia, icp, ins, par, e, ag, wk, ws, wl⟩ := n
  obtain ⟨he, hp, hk⟩ := hs
  unfold Nd.val at *
  unfold Nd.cs at *
  unfold InOk at *
  simp only at *
  subst he hp
  unfold e0 at *
  simp only [List.length_nil] at *
  obtain ⟨L, hL⟩ : ∃ L, ins.length = L := ⟨_, rfl⟩
  rw [hL] at HB HX HY HI hk ⊢
  have HL := hide hL
  clear hL
  obtain ⟨CS, hCS⟩ : ∃ CS, #[Value.int .i64 kd, .slice ia L icp, .int .i64 1, .int .i64 0, .int .i64 0, .slice none 0 0, .int .i64 ag, .int .i64 wk, .int .i64 ws, .int .i64 wl] = CS := ⟨_, rfl⟩
  have HC := hide hCS
  have HY2 : Hid (BoxT 54 ((w.alloc (.cells #[.slice na ns.length ncp] 24)).alloc (.cells #[.int .i64 kd, .slice ia L icp, .int .i64 1, .int .i64 0, .int .i64 0, .slice none 0 0, .int .i64 ag, .int .i64 wk, .int .i64 ws, .int .i64 wl] 54)) (w.heap.size + 1) CS) := by rw [← hCS]; exact HY
  clear hCS HY
  have hL4 : L ≤ 4 := by omega
  rcases hk with ⟨rfl, rfl, rfl, rfl, rfl, rfl⟩ | ⟨rfl, ⟨hw1, hw2⟩, rfl, rfl, rfl, rfl⟩ | ⟨rfl, rfl, rfl, rfl, rfl, rfl⟩ | ⟨rfl, rfl, rfl, rfl, ⟨hw1, hw2⟩, ⟨hw3, hw4⟩⟩ | ⟨rfl, rfl, rfl, rfl, rfl, rfl⟩
  case' inr.inl =>
    have l0 : ¬ (L : Int) < 1 := by omega
    have l1 : (L : Int) ≤ 4 := by omega
  case' inr.inr.inr.inl =>
    have u1 : ¬ ws < 1 := by omega
    have u2 : ws ≤ 68719476736 := by omega
    have u3 : ¬ wl < 1 := by omega
    have u4 : wl ≤ 68719476736 := by omega
  all_goals
    go_enter Try.func49, Try.ntmps49
    go_wp2_with fail
    go_loopg [6] (ins.length + 1) (fun g iv wr => ∃ t : Nat, iv = .int .i64 (t : Int) ∧ t ≤ ins.length ∧ ins.length + 1 ≤ g + t ∧ Hid (Below w.heap.size w wr) ∧ Hid (BoxT 24 wr w.heap.size #[.slice na ns.length ncp]) ∧ Hid (BoxT 54 wr (w.heap.size + 1) CS))
    case atStart => exact ⟨0, rfl, by omega, by omega, HB, HX, HY2⟩
    case round =>
      obtain ⟨t, rfl, ht, hg, GB, GX, GY⟩ := hrel
      obtain ⟨go, rfl⟩ : ∃ go, gk = go + 1 := ⟨gk - 1, by omega⟩
      have GZ := GY
      rw [← HC.out] at GZ
      obtain ⟨d0, d1, d2, d3, d4, d5, d6, d7, d8, d9⟩ := GZ.out.cells10
      have cx : wr.cell? ⟨w.heap.size, 0, none⟩ = some (.slice na ns.length ncp) := by rw [GX.out.cellAt]; rfl
      clear GZ
      have hLL := HL.out
      by_cases hlt : t < ins.length
      · first
          | (exfalso; omega)
          | (
              obtain ⟨x, hx⟩ := get_of_lt hlt
              obtain ⟨xb, xo, rfl, -, cx2⟩ := (HI.out.below (GB.out.mono HW.out)).num hx
              obtain ⟨f, m, rfl, hm, hm8⟩ := HO.out x (List.mem_of_getElem? hx)
              obtain ⟨nb, no, rfl, -, ck, -⟩ := (HJ.out.below (GB.out.mono HW.out)).at_ hm
              have hfl := lt_of_get hm
              have bt : (t : Int) < (ins.length : Int) := by omega
              rw [hLL] at bt
              have bf : (f : Int) < (ns.length : Int) := by omega
              have b8 : (m.kind == 8) = false := by simp [hm8]
              clear hx hm hm8
              go_wp2_with fail
              go_quiet (fail)
              go_wp2_with fail
              go_roundg go
              case rel => exact ⟨t + 1, by go_num, by omega, by omega, below_drewN GB.out _, GX.out, GY.out⟩
              case measure => omega
            )
      · have bt : ¬ (t : Int) < (ins.length : Int) := by omega
        rw [hLL] at bt
        have HZ : Hid (Calls Try.prog 57 #[.agg #[.int .i64 0, .int .i64 0, .slice none 0 0]] wr fun e w' => e = .returned (.bool true) ∧ Below wr.heap.size wr w') := zero_any wr
        go_wp2_with (go_at_call 57; refine HZ.out.mono ?_; rintro e w2 ⟨rfl, b2⟩; have GZ2 := GY.out.below b2; rw [← HC.out] at GZ2; obtain ⟨q0, q1, q2, q3, q4, q5, q6, q7, q8, q9⟩ := GZ2.cells10; have B2 := hide (GB.out.trans (b2.mono GB.out.size)); clear b2 GZ2)
        go_ret
        first
          | exact ⟨rfl, B2.out⟩
          | exact ⟨rfl, B2.out.alloc B2.out.size _⟩
end Go.Proofs.Ytfiafbfbiidnlaa
