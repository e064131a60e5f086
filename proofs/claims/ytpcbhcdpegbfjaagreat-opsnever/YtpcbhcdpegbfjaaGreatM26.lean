/-
  Texts in build order: ZJRefOrd, ZJRefNode.
-/
import Derived.Test.YtpcbhcdpegbfjaaGreatM25
import Derived.Test.YtpcbhcdpegbfjaaGreatM22
/-
  The document's Order.
-/
namespace Go.Proofs.YtpcbhcdpegbfjaaGreat.J
open Go.RowKit

/-- The least candidate from m on. -/
def lo (inss : List (List Int)) (pl : List Bool) (m : Nat) : Option Nat := (List.range' m (inss.length - m)).find? (cand inss pl)
def encO : Option Nat → Int
  | none => -1
  | some i => (i : Int)
theorem lo_end (inss : List (List Int)) (pl : List Bool) : lo inss pl inss.length = none := by unfold lo; rw [Nat.sub_self]; rfl
theorem lo_step {inss : List (List Int)} {pl : List Bool} {m : Nat} (h : m < inss.length) : lo inss pl m = if cand inss pl m = true then some m else lo inss pl (m + 1) := by
  unfold lo
  obtain ⟨d, hd⟩ : ∃ d, inss.length - m = d + 1 := ⟨inss.length - m - 1, by omega⟩
  rw [hd, show inss.length - (m + 1) = d by omega, List.range'_succ, List.find?_cons]
  cases cand inss pl m <;> simp
theorem lo_zero (inss : List (List Int)) (pl : List Bool) : lo inss pl 0 = nextR inss pl := by unfold lo nextR; rw [Nat.sub_zero, List.range_eq_range']
theorem lo_lt {inss : List (List Int)} {pl : List Bool} {i : Nat} (h : nextR inss pl = some i) : i < inss.length ∧ pl.getD i true = false := by
  unfold nextR at h
  have h1 := List.mem_of_find?_eq_some h
  have h2 := List.find?_some h
  unfold cand at h2
  rw [Bool.and_eq_true] at h2
  exact ⟨by simpa using h1, by simpa using h2.1⟩
theorem map_get_bool {l : List Bool} {i : Nat} {b : Bool} (h : l[i]? = some b) : (l.map Value.bool).toArray[i]? = some (.bool b) := by simp [h]
set_option maxHeartbeats 8000000 in
set_option maxRecDepth 100000 in
theorem RefOrder_any {w : World} {v : Value} {ns : List Nd} (hj : JobIn w.heap.size w v ns) (hn : ns.length ≤ 400) :
    Calls Tryz.prog 48 #[.agg #[v]] w fun e w' => ∃ rv, e = .returned rv ∧ OwnN w.heap.size w' rv (ordR (ns.map Nd.ins) (ns.length + 1) (List.replicate ns.length false)) ∧ Below w.heap.size w w' := by
  obtain ⟨na, ncp, rfl⟩ := hj.shape
  have hb0 : Below w.heap.size w (w.alloc (.cells #[.slice na ns.length ncp] 62)) := (Below.refl _ _).alloc (Nat.le_refl _) _
  have HJ := hide hj
  have HB := hide hb0
  have HX := hide (BoxT.new 62 w #[.slice na ns.length ncp])
  obtain ⟨R, hR⟩ : ∃ R, ordR (ns.map Nd.ins) (ns.length + 1) (List.replicate ns.length false) = R := ⟨_, rfl⟩
  rw [hR]
  have HR := hide hR
  have m1 : ∀ W : World, (Instr.makeSlice 121 (.int .i64 (ns.length : Int)) (.int .i64 (ns.length : Int))).run Tryz.prog W = _ := fun W => mkB W ns.length (by omega)
  obtain ⟨cA, hcA⟩ : ∃ c, ((List.replicate ns.length false).map Value.bool).toArray = c := ⟨_, rfl⟩
  rw [hcA] at m1
  have HA := hide hcA
  have hlm : (ns.map Nd.ins).length = ns.length := by simp
  have HLM := hide hlm
  clear hj hb0 hR hcA hlm
  go_enter Tryz.func48, Tryz.ntmps48
  go_wp2_with fail
  go_loopg [4] (ns.length + 1) (fun g ov wr => ∃ (pl : List Bool) (out : List Nat), Hid (BoxT 4 wr (w.heap.size + 1) (pl.map Value.bool).toArray) ∧ pl.length = ns.length ∧ Hid (OwnN w.heap.size wr ov out) ∧ Hid (out ++ ordR (ns.map Nd.ins) g pl = R) ∧ left pl + 1 ≤ g ∧ out.length + left pl ≤ ns.length ∧ Hid (Below w.heap.size w wr) ∧ Hid (BoxT 62 wr w.heap.size #[.slice na ns.length ncp]))
  case atStart =>
    refine ⟨List.replicate ns.length false, [], ?_, by simp, OwnL.nil _ _ _ _ _, HR, by rw [left_all]; omega, by rw [left_all]; simp, HB.out.alloc (by simp) _, HX.out.alloc _⟩
    rw [HA.out]
    exact BoxT.new_at (by simp)
  case round =>
    obtain ⟨pl, out, GA, hpl, GO, GR, g1, g2, GB, GX⟩ := hrel
    obtain ⟨go, rfl⟩ : ∃ go, gk = go + 1 := ⟨gk - 1, by omega⟩
    have cx : wr.cell? ⟨w.heap.size, 0, none⟩ = some (.slice na ns.length ncp) := by rw [GX.out.cellAt]; rfl
    have HPL := hide hpl
    have HAT : Hid (∀ (i : Nat) (b : Bool), pl[i]? = some b → wr.cell? ⟨w.heap.size + 1, i, none⟩ = some (.bool b)) := fun i b hb => by rw [GA.out.cellAt]; exact map_get_bool hb
    clear hpl
    go_wp2_with fail
    go_loopg [5, 6] (ns.length + 1) (fun g nv iv wi => ∃ m : Nat, m ≤ ns.length ∧ m + 1 ≤ g ∧ iv = .int .i64 ((m : Int) - 1) ∧ nv = .int .i64 (encO (lo (ns.map Nd.ins) pl m)) ∧ wr = wi)
    case atStart => exact ⟨ns.length, by omega, by omega, by go_num, by rw [← HLM.out, lo_end]; rfl, rfl⟩
    case round =>
      obtain ⟨m, hm, hgm, rfl, rfl, rfl⟩ := hrel
      obtain ⟨gi, rfl⟩ : ∃ gi, gk = gi + 1 := ⟨gk - 1, by omega⟩
      by_cases hm0 : m = 0
      · subst hm0
        rw [lo_zero]
        cases hnx : nextR (ns.map Nd.ins) pl with
        | none =>
          have HE : Hid (out = R) := (show out = R by
            have := GR.out
            rw [ordR, hnx] at this
            simpa using this)
          clear GR hnx
          unfold encO
          go_wp2_with fail
          go_ret
          rw [← HE.out]
          exact ⟨_, rfl, GO.out, GB.out⟩
        | some i =>
          obtain ⟨hil, hip⟩ := lo_lt hnx
          rw [HLM.out] at hil
          have HE : Hid (out ++ i :: ordR (ns.map Nd.ins) go (pl.set i true) = R) := by
            have := GR.out
            rw [ordR, hnx] at this
            exact this
          obtain ⟨b, hb⟩ := get_of_lt (l := pl) (i := i) (by rw [HPL.out]; exact hil)
          have hbf : b = false := by rw [getD_of hb] at hip; exact hip
          subst hbf
          have ca := HAT.out i false hb
          have fa := GA.out.free i
          have HBI := hide hb
          have bi : (i : Int) < (ns.length : Int) := by omega
          have bi0 : ¬ (i : Int) < 0 := by omega
          have hol : out.length ≤ 1000000 := by omega
          clear GR hnx hip hb
          unfold encO
          have GA2 := hide (GA.out.set i (.bool true))
          have GO2 : Hid (OwnN w.heap.size (wr.setCell ⟨w.heap.size + 1, i, none⟩ (.bool true)) u4 out) := OwnN.other GO.out (fun g e => by
            obtain ⟨cur, hc⟩ := GO.out.has g e
            exact BoxT.ne (t := 3) hc GA.out (by decide))
          have GB2 := hide (GB.out.setCell (p := ⟨w.heap.size + 1, i, none⟩) (by simp) (.bool true))
          have GX2 := hide (GX.out.other (k' := w.heap.size + 1) i (.bool true) (by omega))
          have HNW : Hid (((wr.setCell ⟨w.heap.size + 1, i, none⟩ (.bool true)).alloc (.cells #[.int .i64 (i : Int)] 3)).cell? ⟨wr.heap.size, 0, none⟩ = some (.int .i64 (i : Int))) := by
            rw [(BoxT.new_at (t := 3) (w := wr.setCell ⟨w.heap.size + 1, i, none⟩ (.bool true)) (by simp)).cellAt]; rfl
          have HBS : Hid (w.heap.size ≤ ((wr.setCell ⟨w.heap.size + 1, i, none⟩ (.bool true)).alloc (.cells #[.int .i64 (i : Int)] 3)).heap.size) := (show _ ≤ _ by have := GB.out.size; simp; omega)
          go_wp2_with (at_builtin; refine app_ownN (by kernel_rfl) rfl _ _ rfl w.heap.size u4 out rfl (GO2.out.alloc _) ⟨wr.heap.size, 0, none⟩ 1 i rfl HNW.out hol HBS.out ?_; intro v4 w4 h4 g4 n4)
          go_roundg go
          case rel =>
            have hset := left_set HBI.out
            have ba : Below (wr.setCell ⟨w.heap.size + 1, i, none⟩ (.bool true)).heap.size (wr.setCell ⟨w.heap.size + 1, i, none⟩ (.bool true)) ((wr.setCell ⟨w.heap.size + 1, i, none⟩ (.bool true)).alloc (.cells #[.int .i64 (i : Int)] 3)) := (Below.refl _ _).alloc (Nat.le_refl _) _
            have hoo : ∀ k, u4.ownBlock = some k → w.heap.size ≤ k := fun k e => GO.out.at k e
            have h3 : ∀ {k : Nat} {ty : TypeId} {cs : Array Value}, BoxT ty (wr.setCell ⟨w.heap.size + 1, i, none⟩ (.bool true)) k cs → ty ≠ 3 → BoxT ty w4 k cs := fun hk hty => (hk.below ba).grownO g4 (fun e => by
              obtain ⟨cur, hc⟩ := GO2.out.has _ e.symm
              exact hk.ne (t' := 3) hc hty rfl)
            refine ⟨pl.set i true, out ++ [i], ?_, by rw [List.length_set]; exact HPL.out, h4, ?_, by omega, by simp; omega, ?_, h3 GX2.out (by decide)⟩
            · have := h3 GA2.out (by decide)
              rwa [map_set Value.bool] at this
            · show (out ++ [i]) ++ _ = R
              rw [List.append_assoc]
              exact HE.out
            · exact GB2.out.trans ((ba.mono (by have := GB.out.size; simpa using this)).trans ⟨g4.os, g4.tape, g4.output, g4.size, fun k hk => g4.block k (by have := GB.out.size; simp; omega) (fun e => by have := hoo k e.symm; omega)⟩)
          case measure => omega
      · obtain ⟨i, rfl⟩ : ∃ i, m = i + 1 := ⟨m - 1, by omega⟩
        have hil : i < ns.length := by omega
        obtain ⟨nd, hnd⟩ := get_of_lt (l := ns) (i := i) hil
        obtain ⟨b, hb⟩ := get_of_lt (l := pl) (i := i) (by rw [HPL.out]; exact hil)
        have ca := HAT.out i b hb
        obtain ⟨nb, no, rfl, nlt, -, ci, -⟩ := (HJ.out.below GB.out).at_ hnd
        have HLI := hide ((HJ.out.below GB.out).ins nd (List.mem_of_getElem? hnd))
        have hil2 := HLI.out.len
        have hstep := lo_step (pl := pl) (show i < (ns.map Nd.ins).length by rw [HLM.out]; exact hil)
        have hcd : cand (ns.map Nd.ins) pl i = (!b && nd.ins.all (candI ns.length pl)) := by
          unfold cand
          rw [getD_of hb, getD_of (show (ns.map Nd.ins)[i]? = some nd.ins by rw [List.getElem?_map, hnd]; rfl), HLM.out]
        rw [hcd] at hstep
        obtain ⟨nx, hnx⟩ : ∃ nx, encO (lo (ns.map Nd.ins) pl (i + 1)) = nx := ⟨_, rfl⟩
        have HST : Hid (∀ c, (!b && nd.ins.all (candI ns.length pl)) = c → encO (lo (ns.map Nd.ins) pl i) = if c = true then (i : Int) else nx) := fun c hc => by
          rw [hstep, hc]
          cases c
          · simpa using hnx
          · rfl
        rw [hnx]
        have bi : (i : Int) < (ns.length : Int) := by omega
        clear hstep hcd hnx hnd hb
        obtain ⟨kd, ia, icp, ins, par, ex, ag, wk, ws, wl⟩ := nd
        dsimp only at ci HLI hil2 HST
        have hi1 : (((i + 1 : Nat)) : Int) - 1 = (i : Int) := by omega
        rw [hi1]
        go_wp2_with fail
        go_loopg [7, 8, 9] (ins.length + 1) (fun g okv kv nv wi => ∃ q : Nat, q ≤ ins.length ∧ ins.length + 1 ≤ g + q ∧ kv = .int .i64 (q : Int) ∧ okv = .bool (!b && (ins.take q).all (candI ns.length pl)) ∧ wr = wi)
        case atStart => exact ⟨0, by omega, by omega, rfl, by simp, rfl⟩
        case round =>
          obtain ⟨q, hq, hgq, rfl, rfl, rfl⟩ := hrel
          obtain ⟨gq, rfl⟩ : ∃ gq, gk = gq + 1 := ⟨gk - 1, by omega⟩
          by_cases hlq : q < ins.length
          · obtain ⟨x, hx⟩ := get_of_lt hlq
            have bq : (q : Int) < (ins.length : Int) := by omega
            obtain ⟨xb, xo, rfl, -, cx2⟩ := HLI.out.num hx
            have hall : (ins.take (q + 1)).all (candI ns.length pl) = ((ins.take q).all (candI ns.length pl) && candI ns.length pl x) := by
              have hl := lt_of_get hx
              rw [List.getElem?_eq_getElem hl] at hx
              cases hx
              rw [List.take_succ_eq_append_getElem hl, List.all_append]
              simp
            have HAL : Hid (∀ c, (!b && (ins.take q).all (candI ns.length pl)) = c → (!b && (ins.take (q + 1)).all (candI ns.length pl)) = (c && candI ns.length pl x)) := fun c hc => by rw [hall, ← Bool.and_assoc, hc]
            obtain ⟨c, hc⟩ : ∃ c, (!b && (ins.take q).all (candI ns.length pl)) = c := ⟨_, rfl⟩
            have HC := hide (HAL.out c hc)
            rw [hc]
            clear hx hall HAL hc HST
            cases c with
            | false =>
              go_wp2_with fail
              go_roundg gq
              case rel => exact ⟨q + 1, by omega, by omega, by go_num, by rw [show (!b && (ins.take (q + 1)).all (candI ns.length pl)) = false from HC.out], rfl⟩
              case measure => omega
            | true =>
              by_cases x0 : 0 ≤ x
              · by_cases x1 : x < (ns.length : Int)
                · obtain ⟨f, rfl⟩ : ∃ f : Nat, x = (f : Int) := ⟨x.toNat, by omega⟩
                  obtain ⟨d, hd⟩ := get_of_lt (l := pl) (i := f) (by rw [HPL.out]; omega)
                  have cd := HAT.out f d hd
                  have hcx : candI ns.length pl (f : Int) = d := by
                    unfold candI
                    rw [Int.toNat_natCast, getD_of hd]
                    simp; omega
                  have HC2 : Hid ((!b && (ins.take (q + 1)).all (candI ns.length pl)) = d) := HC.out.trans (by rw [hcx]; rfl)
                  clear hcx
                  clear HC hd
                  go_wp2_with fail
                  go_roundg gq
                  case rel => exact ⟨q + 1, by omega, by omega, by go_num, by rw [HC2.out], rfl⟩
                  case measure => omega
                · have hcx : candI ns.length pl x = false := by
                    unfold candI
                    simp [x1]
                  have HC2 : Hid ((!b && (ins.take (q + 1)).all (candI ns.length pl)) = false) := HC.out.trans (by rw [hcx]; rfl)
                  clear hcx
                  clear HC
                  go_wp2_with fail
                  go_roundg gq
                  case rel => exact ⟨q + 1, by omega, by omega, by go_num, by rw [HC2.out], rfl⟩
                  case measure => omega
              · have hcx : candI ns.length pl x = false := by
                  unfold candI
                  simp [x0]
                have HC2 : Hid ((!b && (ins.take (q + 1)).all (candI ns.length pl)) = false) := HC.out.trans (by rw [hcx]; rfl)
                clear hcx
                clear HC
                go_wp2_with fail
                go_roundg gq
                case rel => exact ⟨q + 1, by omega, by omega, by go_num, by rw [HC2.out], rfl⟩
                case measure => omega
          · have bq : ¬ (q : Int) < (ins.length : Int) := by omega
            have htk : ins.take q = ins := List.take_of_length_le (by omega)
            rw [htk]
            obtain ⟨c, hc⟩ : ∃ c, (!b && ins.all (candI ns.length pl)) = c := ⟨_, rfl⟩
            have HC := hide (HST.out c hc)
            rw [hc]
            clear htk hc HST
            cases c with
            | false =>
              go_wp2_with fail
              go_roundg gi
              case rel => exact ⟨i, by omega, by omega, rfl, by rw [HC.out]; rfl, rfl⟩
              case measure => omega
            | true =>
              go_wp2_with fail
              go_roundg gi
              case rel => exact ⟨i, by omega, by omega, rfl, by rw [HC.out]; rfl, rfl⟩
              case measure => omega
end Go.Proofs.YtpcbhcdpegbfjaaGreat.J
/-
  The document's node: of nodes that have no fault.
-/
namespace Go.Proofs.YtpcbhcdpegbfjaaGreat.J
open Go.RowKit

/-- A node of one of five kinds, as a law makes it. -/
def Shp (n : Nd) : Prop :=
  n.e = e0 ∧ n.par = 1 ∧
    ((n.kind = 1 ∧ n.ins.length = 0 ∧ n.agg = 0 ∧ n.wk = 0 ∧ n.ws = 0 ∧ n.wl = 0) ∨ (n.kind = 5 ∧ (1 ≤ n.ins.length ∧ n.ins.length ≤ 4) ∧ n.agg = 0 ∧ n.wk = 0 ∧ n.ws = 0 ∧ n.wl = 0) ∨
      (n.kind = 6 ∧ n.ins.length = 1 ∧ n.agg = 4 ∧ n.wk = 0 ∧ n.ws = 0 ∧ n.wl = 0) ∨ (n.kind = 7 ∧ n.ins.length = 1 ∧ n.agg = 1 ∧ n.wk = 2 ∧ (1 ≤ n.ws ∧ n.ws ≤ 7) ∧ (1 ≤ n.wl ∧ n.wl ≤ 4)) ∨ (n.kind = 8 ∧ n.ins.length = 1 ∧ n.agg = 0 ∧ n.wk = 0 ∧ n.ws = 0 ∧ n.wl = 0))
/-- Its inputs are there, and no sink. -/
def InOk (ns : List Nd) (n : Nd) : Prop := ∀ x ∈ n.ins, ∃ (f : Nat) (m : Nd), x = (f : Int) ∧ ns[f]? = some m ∧ m.kind ≠ 8
end Go.Proofs.YtpcbhcdpegbfjaaGreat.J
