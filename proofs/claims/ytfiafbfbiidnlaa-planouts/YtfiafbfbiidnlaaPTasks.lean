/-
  tasksOf.
-/
import Derived.Test.YtfiafbfbiidnlaaPOuts
namespace Go.Proofs.Ytfiafbfbiidnlaa
open Go.RowKit

/-- The first m parts of node i. -/
def tkN (i m : Nat) : List Tk := (List.range m).map fun k : Nat => ⟨(i : Int), (k : Int)⟩
/-- The tasks of nodes, from number i on. -/
def tksOf (i : Nat) : List Nd → List Tk
  | [] => []
  | n :: r => tkN i n.par.toNat ++ tksOf (i + 1) r
theorem tkN_succ (i m : Nat) : tkN i (m + 1) = tkN i m ++ [⟨i, m⟩] := by simp [tkN, List.range_succ]
theorem tkN_len (i m : Nat) : (tkN i m).length = m := by simp [tkN]
theorem tksOf_app (l r : List Nd) : ∀ i, tksOf i (l ++ r) = tksOf i l ++ tksOf (i + l.length) r := by
  induction l with
  | nil => intro i; rfl
  | cons x l ih =>
    intro i
    rw [List.cons_append, tksOf, tksOf, ih, List.length_cons, show i + 1 + l.length = i + (l.length + 1) by omega, List.append_assoc]
theorem tksOf_take {l : List Nd} {t : Nat} {x : Nd} (h : l[t]? = some x) : tksOf 0 (l.take (t + 1)) = tksOf 0 (l.take t) ++ tkN t x.par.toNat := by
  have hl := lt_of_get h
  rw [List.getElem?_eq_getElem hl] at h
  cases h
  rw [List.take_succ_eq_append_getElem hl, tksOf_app, List.length_take, Nat.min_eq_left (by omega), Nat.zero_add]
  simp [tksOf]
theorem tksOf_len (l : List Nd) (h : ∀ n ∈ l, n.par ≤ 4) : ∀ i, (tksOf i l).length ≤ 4 * l.length := by
  induction l with
  | nil => intro i; simp [tksOf]
  | cons x l ih =>
    intro i
    have h1 := h x (List.mem_cons_self ..)
    have h2 := ih (fun n hn => h n (List.mem_cons_of_mem _ hn)) (i + 1)
    rw [tksOf, List.length_append, tkN_len, List.length_cons]
    omega

set_option maxHeartbeats 2000000 in
set_option maxRecDepth 100000 in
theorem tasksOf_any {w : World} {v : Value} {ns : List Nd} (hj : JobIn w.heap.size w v ns) (hl : ns.length ≤ 1000) (hp : ∀ n ∈ ns, n.par ≤ 4) :
    Calls Try.prog 30 #[.agg #[v]] w fun e w' => ∃ u, e = .returned u ∧ OwnL 42 2 Tk.cs w.heap.size w' u (tksOf 0 ns) ∧ Below w.heap.size w w' := by
  obtain ⟨na, ncp, rfl⟩ := hj.shape
  have HJ := hide hj
  have HP := hide hp
  have HB0 := hide (below_box w (.cells #[.slice na ns.length ncp] 24))
  clear hj hp
  go_enter Try.func30, Try.ntmps30
  go_wp2_with fail
  go_loopg [3, 10] (ns.length + 1) (fun g uv iv wr => ∃ t : Nat, iv = .int .i64 (t : Int) ∧ t ≤ ns.length ∧ ns.length + 1 ≤ g + t ∧ Hid (OwnL 42 2 Tk.cs w.heap.size wr uv (tksOf 0 (ns.take t))) ∧ Hid (Below w.heap.size w wr))
  case atStart => exact ⟨0, rfl, by omega, by omega, OwnL.nil _ _ _ _ _, HB0.out⟩
  case round =>
    obtain ⟨t, rfl, ht, hg, GO, GB⟩ := hrel
    obtain ⟨go, rfl⟩ : ∃ go, gk = go + 1 := ⟨gk - 1, by omega⟩
    obtain ⟨wo, hwo⟩ : ∃ wo, wo = wr := ⟨_, rfl⟩
    subst hwo
    by_cases hlt : t < ns.length
    · obtain ⟨n, hn⟩ := get_of_lt hlt
      have bt : (t : Int) < (ns.length : Int) := by omega
      obtain ⟨nb, no, rfl, nlt, d0, d1, d2, d3, d4, d5, d6, d7, d8, d9⟩ := (HJ.out.below GB.out).at_ hn
      have hp4 := HP.out n (List.mem_of_getElem? hn)
      have HTK := hide (tksOf_take hn)
      have HBX := hide (below_box wo (.cells n.cs.toArray 54))
      have hln : (tksOf 0 (ns.take t)).length ≤ 4 * t := by
        have := tksOf_len (ns.take t) (fun m hm => HP.out m (List.mem_of_mem_take hm)) 0
        rw [List.length_take] at this
        omega
      have HLN := hide hln
      clear hn hln
      obtain ⟨kd, ia, icp, ins, par, ⟨eo, en, ea, ec, el⟩, ag, wk, wz, wl⟩ := n
      unfold Nd.cs at HBX
      simp only at d0 d1 d2 d3 d4 d5 d6 d7 d8 d9 hp4 HTK HBX
      go_wp2_with fail
      go_loopg [3, 17] (par.toNat + 1) (fun g uv iv wi => ∃ q : Nat, iv = .int .i64 (q : Int) ∧ q ≤ par.toNat ∧ par.toNat + 1 ≤ g + q ∧ Hid (OwnL 42 2 Tk.cs w.heap.size wi uv (tksOf 0 (ns.take t) ++ tkN t q)) ∧ Hid (Below w.heap.size w wi))
      case atStart => exact ⟨0, rfl, by omega, by omega, (show OwnL _ _ _ _ _ _ _ by simpa [tkN] using GO.out.below HBX.out), GB.out.trans (HBX.out.mono GB.out.size)⟩
      case round =>
        obtain ⟨q, rfl, hq, hgq, QO, QB⟩ := hrel
        obtain ⟨gi, rfl⟩ : ∃ gi, gk = gi + 1 := ⟨gk - 1, by omega⟩
        by_cases hqp : (q : Int) < par
        · have HNW : Hid (∀ (j : Nat) (u : Value), (Tk.cs ⟨t, q⟩)[j]? = some u → (wr.alloc (.cells #[.int .i64 (t : Int), .int .i64 (q : Int)] 42)).cell? ((⟨wr.heap.size, 0, none⟩ : Addr).add j) = some u) := fun j u hu => by
            rw [add_plain2, (BoxT.new 42 wr _).cellAt, Nat.zero_add]
            simpa [Tk.cs] using hu
          have HBS : Hid (w.heap.size ≤ (wr.alloc (.cells #[.int .i64 (t : Int), .int .i64 (q : Int)] 42)).heap.size) := (show _ ≤ _ by have := QB.out.size; simp; omega)
          have HLL : Hid ((tksOf 0 (ns.take t) ++ tkN t q).length ≤ 1000000) := (show _ ≤ _ by rw [List.length_append, tkN_len]; have := HLN.out; omega)
          go_wp2_with (at_builtin; refine app_L Try.info42' (by kernel_rfl) rfl (by omega) (by omega) Tk.cs_len Tk.cs_one rfl _ _ rfl w.heap.size u3 _ rfl (QO.out.alloc _) ⟨wr.heap.size, 0, none⟩ 1 ⟨t, q⟩ rfl HNW.out HLL.out HBS.out ?_; intro v4 w4 h4 g4 n4)
          go_roundg gi
          case rel =>
            have ba : Below w.heap.size w (wr.alloc (.cells #[.int .i64 (t : Int), .int .i64 (q : Int)] 42)) := QB.out.alloc QB.out.size _
            exact ⟨q + 1, by go_num, by omega, by omega, (show OwnL _ _ _ _ _ _ _ by rw [tkN_succ, ← List.append_assoc]; exact h4), ba.grown g4 HBS.out (fun k e => QO.out.at k e)⟩
          case measure => omega
        · have hqe : q = par.toNat := by omega
          have HE : Hid (OwnL 42 2 Tk.cs w.heap.size wr u3 (tksOf 0 (ns.take (t + 1)))) := (show OwnL _ _ _ _ _ _ _ by rw [HTK.out, ← hqe]; exact QO.out)
          clear hqe
          go_wp2_with fail
          go_roundg go
          case rel => exact ⟨t + 1, by go_num, by omega, by omega, HE, QB⟩
          case measure => omega
    · have bt : ¬ (t : Int) < (ns.length : Int) := by omega
      have HE : Hid (OwnL 42 2 Tk.cs w.heap.size wo u3 (tksOf 0 ns)) := (show OwnL _ _ _ _ _ _ _ by have := GO.out; rwa [List.take_of_length_le (by omega)] at this)
      go_wp2_with fail
      go_ret
      exact ⟨_, rfl, HE.out, GB.out⟩
end Go.Proofs.Ytfiafbfbiidnlaa
