/-
  Texts of the vault, in build order: VLightA.
-/
import Derived.Test.YtbfhcbihgleddaaGreatDoorM33
/-
  The law's light, of any steps.
-/
namespace Go.Proofs.YtbfhcbihgleddaaGreatDoor
open Go.RowKit

/-- A step as it lies. -/
structure StV where
  wh : Int
  n : Int
  sa : Option Addr
  sc : Nat
  sn : List SnV
  ka : Option Addr
  kc : Nat
  kl : List Int
  ba : Option Addr
  bc : Nat
  bl : List Nat
def StV.cs (t : StV) : List Value := [.int .i64 t.wh, .int .i64 t.n, .slice t.sa t.sn.length t.sc, .slice t.ka t.kl.length t.kc, .slice t.ba t.bl.length t.bc]
structure StOk (B : Nat) (w : World) (t : StV) : Prop where
  sn : SnsIn B w (.slice t.sa t.sn.length t.sc) t.sn
  kl : LSeg 1 (fun x : Int => [Value.int .i64 x]) B w (.slice t.ka t.kl.length t.kc) t.kl
  bl : SegB B w (.slice t.ba t.bl.length t.bc) t.bl
  by_ : Byts t.bl
  wf : (Lit.int .i64 t.n).wf = true
theorem StOk.below {B : Nat} {w w' : World} {t : StV} (h : StOk B w t) (hb : Below B w w') : StOk B w' t := ⟨h.sn.below hb, h.kl.below hb, h.bl.below hb, h.by_, h.wf⟩
structure StsIn (B : Nat) (w : World) (v : Value) (l : List StV) : Prop where
  row : LSeg 5 StV.cs B w v l
  each : ∀ t ∈ l, StOk B w t
theorem StsIn.below {B : Nat} {w w' : World} {v : Value} {l : List StV} (h : StsIn B w v l) (hb : Below B w w') : StsIn B w' v l := ⟨h.row.below hb, fun t ht => (h.each t ht).below hb⟩
def wSn (x : SnV) : Nat := 10 + x.s.marks.length + 4 * x.s.panes.length + 4 * x.s.outs.length
def wSt (t : StV) : Nat := t.kl.length + t.bl.length + (t.sn.map wSn).sum
theorem sum_take {α : Type} (f : α → Nat) {l : List α} {i : Nat} {x : α} (h : l[i]? = some x) : ((l.take (i + 1)).map f).sum = ((l.take i).map f).sum + f x := by
  rw [List.take_add_one, h]
  simp
theorem SnSeg.lens {B : Nat} {w : World} {x : SnV} (hs : SnSeg B w (.slice x.am x.s.marks.length x.cm) (.slice x.ap x.s.panes.length x.cp) (.slice x.ac x.s.outs.length x.cc) x.s) : x.s.marks.length ≤ 140737488355328 ∧ x.s.panes.length ≤ 140737488355328 ∧ x.s.outs.length ≤ 140737488355328 := by
  obtain ⟨_, _, _, h1, _⟩ := hs.m
  obtain ⟨_, _, _, h2, _⟩ := hs.p
  obtain ⟨_, _, _, h3, _⟩ := hs.c
  exact ⟨h1, h2, h3⟩
theorem LSeg.len {α : Type} {sz : Nat} {cs : α → List Value} {B : Nat} {w : World} {v : Value} {xs : List α} (h : LSeg sz cs B w v xs) : xs.length ≤ 140737488355328 := by
  obtain ⟨_, _, _, h, _⟩ := h
  exact h
theorem LSeg.at_ {α : Type} {sz : Nat} {cs : α → List Value} {B : Nat} {w : World} {ao : Option Addr} {n cap : Nat} {xs : List α} (h : LSeg sz cs B w (.slice ao n cap) xs) {i : Nat} {x : α} (hx : xs[i]? = some x) : ∃ b off, ao = some ⟨b, off, none⟩ ∧ b < B ∧ ∀ (i : Nat) (x : α), xs[i]? = some x → ∀ (j : Nat) (u : Value), (cs x)[j]? = some u → w.cell? ⟨b, off + i * sz + j, none⟩ = some u := by
  obtain ⟨_, _, e, _, h⟩ := h
  cases e
  rcases h with rfl | ⟨b, off, rfl, h2, h3⟩
  · cases hx
  · exact ⟨b, off, rfl, h2, h3⟩
theorem LSeg.to {α : Type} {sz : Nat} {cs : α → List Value} {B : Nat} {w w' : World} {b off n cap : Nat} {xs : List α} (h : LSeg sz cs B w (.slice (some ⟨b, off, none⟩) n cap) xs) (hb : Below B w w') {i : Nat} {x : α} (hx : xs[i]? = some x) (j : Nat) (u : Value) (hu : (cs x)[j]? = some u) : w'.cell? ⟨b, off + i * sz + j, none⟩ = some u := by
  obtain ⟨_, _, e, _, h'⟩ := h.below hb
  cases e
  rcases h' with h0 | ⟨b', off', e', h2, h3⟩
  · rw [h0] at hx; simp at hx
  · cases e'
    exact h3 i x hx j u hu
def LtPost (l : List StV) (e : Ending) : Prop := ∃ b : Bool, e = .returned (.bool b) ∧ (b = true → l.length ≤ 80 ∧ (l.map wSt).sum ≤ 20000)
theorem LtPost.no (l : List StV) : LtPost l (.returned (.bool false)) := ⟨false, rfl, fun h => by cases h⟩

set_option maxHeartbeats 4000000 in
set_option maxRecDepth 100000 in
theorem light_any {w : World} {ao : Option Addr} {cap : Nat} {l : List StV} (h : StsIn w.heap.size w (.slice ao l.length cap) l) :
    Calls Tryz.prog 10 #[.slice ao l.length cap] w fun e w' => LtPost l e ∧ Below w.heap.size w w' := by
  have hll := h.row.len
  have HS := hide h
  clear h
  go_enter Tryz.func10, Tryz.ntmps10
  go_wp2_with fail
  go_loopw [3, 4] (fun nv iv wr => ∃ i n : Nat, i ≤ l.length ∧ nv = .int .i64 (n : Int) ∧ iv = .int .i64 (i : Int) ∧ n ≤ 10000000000000000 ∧ (n ≤ 20000 → ((l.take i).map wSt).sum = n) ∧ Hid (Below w.heap.size w wr)) (fun _ iv _ => l.length - (intOf iv).toNat)
  case atStart => exact ⟨0, 0, Nat.zero_le _, rfl, rfl, by omega, fun _ => by simp, Below.refl _ _⟩
  case round =>
    obtain ⟨i, n, hi, rfl, rfl, hn, hsum, HB⟩ := hrel
    by_cases hil : i < l.length
    · by_cases hn2 : n ≤ 20000
      · obtain ⟨t, ht⟩ : ∃ t, l[i]? = some t := ⟨_, List.getElem?_eq_getElem hil⟩
        obtain ⟨b, off, rfl, hbw, _⟩ := HS.out.row.at_ ht
        have d2 := HS.out.row.to HB.out ht 2 _ rfl
        have d3 := HS.out.row.to HB.out ht 3 _ rfl
        have d4 := HS.out.row.to HB.out ht 4 _ rfl
        have k1 := (HS.out.each t (List.mem_of_getElem? ht)).kl.len
        have k2 : t.bl.length ≤ 140737488355328 := by
          obtain ⟨_, _, _, _, _, h, _⟩ := (HS.out.each t (List.mem_of_getElem? ht)).bl
          exact h
        have i1 : (i : Int) < (l.length : Int) := by omega
        have i2 : (n : Int) ≤ 20000 := by omega
        have HT := hide (hsum hn2)
        obtain ⟨n1, hn1⟩ : ∃ n1, n + t.kl.length + t.bl.length = n1 := ⟨_, rfl⟩
        have hn1' : (n : Int) + (t.kl.length : Int) + (t.bl.length : Int) = (n1 : Int) := by omega
        have hw1 : IntKind.i64.wrap ((n : Int) + (t.kl.length : Int)) = (n : Int) + (t.kl.length : Int) := by rw [IntKind.wrap_i64]; omega
        have hw2 : IntKind.i64.wrap ((n : Int) + (t.kl.length : Int) + (t.bl.length : Int)) = (n1 : Int) := by rw [IntKind.wrap_i64]; omega
        clear hsum
        go_wp2_with fail
        go_quiet (fail)
        have HB2 := hide (below_drewN' HB.out nq)
        generalize wr.drewN nq = wa at *
        clear d2 d3 d4 hw1 hw2
        have hn1b : n1 ≤ 1000000000000000 := by omega
        have HN1 := hide (And.intro HT.out hn1)
        clear hn1 hn1' HT
        go_wp2_with fail
        go_loopw [3, 5] (fun nv kv wz => ∃ k m : Nat, k ≤ t.sn.length ∧ nv = .int .i64 (m : Int) ∧ kv = .int .i64 (k : Int) ∧ m ≤ 10000000000000000 ∧ (m ≤ 20000 → n1 + ((t.sn.take k).map wSn).sum = m) ∧ Hid (Below w.heap.size w wz)) (fun _ kv _ => t.sn.length - (intOf kv).toNat)
        case atStart => exact ⟨0, n1, Nat.zero_le _, rfl, rfl, by omega, fun _ => by simp, HB2.out⟩
        case round =>
          obtain ⟨k, m, hk, rfl, rfl, hm, hsum, HZ⟩ := hrel
          have d2 := HS.out.row.to HZ.out ht 2 _ rfl
          have hts := (HS.out.each t (List.mem_of_getElem? ht)).sn
          have k3 := hts.row.len
          by_cases hkl : k < t.sn.length
          · have j1 : (k : Int) < (t.sn.length : Int) := by omega
            by_cases hm2 : m ≤ 20000
            · have j2 : (m : Int) ≤ 20000 := by omega
              obtain ⟨x, hx⟩ : ∃ x, t.sn[k]? = some x := ⟨_, List.getElem?_eq_getElem hkl⟩
              obtain ⟨b1, off1, hsa, hb1, _⟩ := hts.row.at_ hx
              rw [hsa] at d2 hts
              have f3 := hts.row.to HZ.out hx 3 _ rfl
              have f4 := hts.row.to HZ.out hx 4 _ rfl
              have f5 := hts.row.to HZ.out hx 5 _ rfl
              obtain ⟨l1, l2, l3⟩ := SnSeg.lens (hts.each x (List.mem_of_getElem? hx))
              obtain ⟨m1, hm1⟩ : ∃ m1, m + wSn x = m1 := ⟨_, rfl⟩
              have HSU := hide (hsum hm2)
              have HM1 := hide hm1
              unfold wSn at hm1
              generalize x.s.marks.length = y1 at *
              generalize x.s.panes.length = y2 at *
              generalize x.s.outs.length = y3 at *
              have hm1' : (m : Int) + 10 + (y1 : Int) + 4 * (y2 : Int) + 4 * (y3 : Int) = (m1 : Int) := by omega
              have v1 : IntKind.i64.wrap ((m : Int) + 10) = (m : Int) + 10 := by rw [IntKind.wrap_i64]; omega
              have v2 : IntKind.i64.wrap ((m : Int) + 10 + (y1 : Int)) = (m : Int) + 10 + (y1 : Int) := by rw [IntKind.wrap_i64]; omega
              have v3 : IntKind.i64.wrap (4 * (y2 : Int)) = 4 * (y2 : Int) := by rw [IntKind.wrap_i64]; omega
              have v4 : IntKind.i64.wrap (4 * (y3 : Int)) = 4 * (y3 : Int) := by rw [IntKind.wrap_i64]; omega
              have v5 : IntKind.i64.wrap ((m : Int) + 10 + (y1 : Int) + 4 * (y2 : Int)) = (m : Int) + 10 + (y1 : Int) + 4 * (y2 : Int) := by rw [IntKind.wrap_i64]; omega
              have v6 : IntKind.i64.wrap ((m : Int) + 10 + (y1 : Int) + 4 * (y2 : Int) + 4 * (y3 : Int)) = (m1 : Int) := by rw [IntKind.wrap_i64]; omega
              clear hsum hts
              go_wp2_with fail
              go_quiet (fail)
              have HZ2 := hide (below_drewN' HZ.out nq)
              go_wp2
              go_roundw
              case rel => exact ⟨k + 1, m1, by omega, by first | rfl | (rw [hm1']), rfl, by omega, fun _ => by rw [sum_take wSn hx]; have := HSU.out; have := HM1.out; omega, HZ2.out⟩
              case measure => simp only [intOf]; omega
            · have j2 : ¬ (m : Int) ≤ 20000 := by omega
              go_wp2
              go_roundw
              case rel => exact ⟨i + 1, m, by omega, rfl, rfl, by omega, fun h => by omega, HZ.out⟩
              case measure => simp only [intOf]; omega
          · obtain rfl : k = t.sn.length := by omega
            rw [List.take_length] at hsum
            go_wp2
            go_roundw
            case rel => exact ⟨i + 1, m, by omega, rfl, rfl, by omega, fun h => by
              rw [sum_take wSt ht]
              have := hsum h
              have := HN1.out
              have : wSt t = t.kl.length + t.bl.length + (t.sn.map wSn).sum := rfl
              omega, HZ.out⟩
            case measure => simp only [intOf]; omega
      · have i2 : ¬ (n : Int) ≤ 20000 := by omega
        have i1 : (i : Int) < (l.length : Int) := by omega
        by_cases h80 : l.length ≤ 80
        · have i3 : (l.length : Int) ≤ 80 := by omega
          go_wp2
          go_ret
          exact ⟨LtPost.no l, HB.out⟩
        · have i3 : ¬ (l.length : Int) ≤ 80 := by omega
          go_wp2
          go_ret
          exact ⟨LtPost.no l, HB.out⟩
    · obtain rfl : i = l.length := by omega
      rw [List.take_length] at hsum
      by_cases hn2 : n ≤ 20000
      · have i2 : (n : Int) ≤ 20000 := by omega
        by_cases h80 : l.length ≤ 80
        · have i3 : (l.length : Int) ≤ 80 := by omega
          go_wp2
          go_ret
          exact ⟨⟨true, rfl, fun _ => ⟨h80, by have := hsum hn2; omega⟩⟩, HB.out⟩
        · have i3 : ¬ (l.length : Int) ≤ 80 := by omega
          go_wp2
          go_ret
          exact ⟨LtPost.no l, HB.out⟩
      · have i2 : ¬ (n : Int) ≤ 20000 := by omega
        by_cases h80 : l.length ≤ 80
        · have i3 : (l.length : Int) ≤ 80 := by omega
          go_wp2
          go_ret
          exact ⟨LtPost.no l, HB.out⟩
        · have i3 : ¬ (l.length : Int) ≤ 80 := by omega
          go_wp2
          go_ret
          exact ⟨LtPost.no l, HB.out⟩
end Go.Proofs.YtbfhcbihgleddaaGreatDoor
