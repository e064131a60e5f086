/-
  The law's has: a vault has just these.
-/
import Derived.Test.YtbfhcbihgleddaaGreatDoorM44
import Derived.Test.YtbfhcbihgleddaaGreatDoorVHold
import Derived.Test.YtbfhcbihgleddaaGreatDoorM30
import Derived.Deep.RegionHeld3
namespace Go.Proofs.YtbfhcbihgleddaaGreatDoor
open Go.RowKit

/-- A snapshot that was put, as the law keeps it. -/
structure OnV where
  n : Nat
  ep : Nat
  a : Option Addr
  c : Nat
  l : List SnV
def OnV.cs (o : OnV) : List Value := [.int .u64 o.n, .int .u64 o.ep, .slice o.a o.l.length o.c]
theorem OnV.cs_len (o : OnV) : o.cs.length = 3 := rfl
theorem OnV.cs_one (o : OnV) : ∀ u ∈ o.cs, u.oneCell' = true := fun u hu => by
  simp only [OnV.cs, List.mem_cons, List.not_mem_nil, or_false] at hu
  rcases hu with rfl | rfl | rfl <;> rfl
def OnV.sp (o : OnV) : Sp := newS o.n o.ep (chunksOf (o.l.map SnV.s))
structure OnOk (w0 : World) (o : OnV) : Prop where
  sn : SnsIn w0.heap.size w0 (.slice o.a o.l.length o.c) o.l
  er : ∀ x ∈ o.l, sEr x.s = 0 ∧ x.s.ok
  wg : (o.l.map wSn).sum ≤ 20000
  pos : 0 < o.n
  lt : o.n < 18446744073709551616
  ep : o.ep < 18446744073709551616
theorem OnOk.one {w0 : World} {o : OnV} (h : OnOk w0 o) : One o.sp := (One.light h.er h.wg h.pos h.lt h.ep).2.1
/-- Get of a snapshot that is there. -/
theorem get_on {w0 w : World} {V k b n : Nat} {p : Pd} {keep : Int} {vt vw : Value} {th : List SpV} {ws : List ByteArray} (h : VAt w0 w V k b n p keep vt vw th ws) (hg : Glob w0) (hs : Srt th) (hll : th.length ≤ 1000) {o : OnV} (hm : o.sp ∈ th.map SpV.s) (ho : OnOk w0 o) :
    Calls Tryz.prog 25 #[.pointer (some ⟨V, 0, none⟩), .int .u64 (o.n : Int)] w fun e w' => ∃ a9 c9 xs9, e = .returned (.tuple #[.slice a9 o.l.length c9, .int .u64 (o.ep : Int), .int .i64 0]) ∧ OwnL 27 6 SnV.cs w.heap.size w' (.slice a9 o.l.length c9) xs9 ∧ (∀ x ∈ xs9, x.ok w.heap.size w') ∧ Below w.heap.size w w' ∧ xs9.map SnV.s = o.l.map SnV.s := by
  obtain ⟨x, hx, hxs⟩ := List.mem_map.1 hm
  have hxn : x.n = o.n := congrArg Sp.n hxs
  have hxe : x.ep = o.ep := congrArg Sp.ep hxs
  have hxc : x.ck.map Ck.l = chunksOf (o.l.map SnV.s) := congrArg Sp.chunks hxs
  obtain ⟨_, hone, _, hgot, _⟩ := One.light ho.er ho.wg ho.pos ho.lt ho.ep
  have hck : ∀ c ∈ x.ck, c.l.length ≤ 2000000 ∧ Byts c.l := fun c hc => by
    have hcm : c.l ∈ chunksOf (o.l.map SnV.s) := by rw [← hxc]; exact List.mem_map.2 ⟨c, hc, rfl⟩
    obtain ⟨q1, q2⟩ := hone.ck c.l hcm
    refine ⟨?_, q1⟩
    rw [sealed_len] at q2
    omega
  have hkl : x.ck.length ≤ 1000000 := by
    have h1 := congrArg List.length hxc
    have h2 : (chunksOf (o.l.map SnV.s)).length ≤ 1 := hone.len
    rw [List.length_map] at h1
    omega
  have htl : o.l.length * 10 ≤ 20000 := Nat.le_trans (len_w o.l) ho.wg
  have hget := get_any h hg (by omega) hs x hx hck hkl (by rw [hxc, hgot, List.length_map]; omega)
  rw [hxc, hxe, hxn] at hget
  refine hget.mono ?_
  rintro e w' ⟨v9, xs9, rfl, gi⟩
  have his := gi.is
  rw [hgot] at his
  have hxl : xs9.length = o.l.length := by
    have h1 := congrArg List.length his
    rwa [List.length_map, List.length_map] at h1
  obtain ⟨a9, c9, hv9⟩ := gi.own.shape
  rw [hxl] at hv9
  subst hv9
  exact ⟨a9, c9, xs9, rfl, gi.own, gi.oks, gi.bel, his⟩
set_option maxHeartbeats 16000000 in
set_option maxRecDepth 100000 in
theorem has_w {w0 w : World} {B V k b nf : Nat} {p : Pd} {keep kp : Int} {vt vw vl mb top cut dead fine : Value} {th : List SpV} {ws : List ByteArray} {la : Option Addr} {lc : Nat} {os : List OnV} (hB : BoxT 52 w B (wld k (.pointer (some ⟨V, 0, none⟩)) kp vl mb top cut dead fine)) (hv : VAt w0 w V k b nf p keep vt vw th ws) (hg : Glob w0) (hs : Srt th) (hth : th.map SpV.s = os.map OnV.sp) (hl : LSeg 3 OnV.cs w.heap.size w (.slice la os.length lc) os) (hok : ∀ o ∈ os, OnOk w0 o) (hlen : os.length ≤ 1000) :
    Calls Tryz.prog 45 #[.pointer (some ⟨B, 0, none⟩), .slice la os.length lc] w fun e w' => e = .returned (.bool true) ∧ Below w.heap.size w w' := by
  have htl : th.length = os.length := by have := congrArg List.length hth; rwa [List.length_map, List.length_map] at this
  have hls := hide (list_any hv (by omega))
  have c1 : w.cell? ⟨B, 1, none⟩ = some (.pointer (some ⟨V, 0, none⟩)) := (wld_cells hB).2.1
  have HB := hide hB
  have HV := hide hv
  have HS := hide hs
  have HTH := hide hth
  have HL := hide hl
  have HOK := hide hok
  rw [htl] at hls
  clear hB hv hs hth hl hok
  go_enter Tryz.func45, Tryz.ntmps45
  go_wp2_with fail
  go_at_call 14
  refine hls.out.mono ?_
  rintro e w8 ⟨rfl, hni⟩
  obtain ⟨ncs, hnb, hnz, hnc⟩ := hni.box
  have V8 := hide (HV.out.below hni.bel)
  have X8 := hide (HB.out.belowT hni.bel)
  have HNB := hide (show BoxT 41 w8 w.heap.size ncs from hnb)
  have HNC : Hid (∀ (j : Nat) (o : OnV), os[j]? = some o → ncs[j]? = some (.int .u64 (o.n : Int))) := fun j o hj => by
    have hjl := (List.getElem?_eq_some_iff.1 hj).1
    obtain ⟨x, hx⟩ : ∃ x, th[j]? = some x := ⟨_, List.getElem?_eq_getElem (by omega)⟩
    have h1 := hnc j x (by omega) hx
    have h2 := congrArg (fun l => l[j]?) HTH.out
    simp only [List.getElem?_map, hx, hj, Option.map_some] at h2
    have h3 : x.n = o.n := congrArg Sp.n (Option.some.inj h2)
    rw [h1, h3]
  have HLB : Hid (∀ w', Below w8.heap.size w8 w' → LSeg 3 OnV.cs w.heap.size w' (.slice la os.length lc) os) := fun w' h => (HL.out.below hni.bel).below (h.mono hni.bel.size)
  have B8 := hide hni.bel
  clear hni hls hnb hnc hnz HL
  go_wp2_with fail
  go_loopw [6] (fun iv wr => ∃ i : Nat, i ≤ os.length ∧ iv = .int .i64 (i : Int) ∧ Hid (Below w8.heap.size w8 wr)) (fun iv _ => os.length - (intOf iv).toNat)
  case atStart => exact ⟨0, Nat.zero_le _, rfl, Below.refl _ _⟩
  case round =>
    clear c1
    obtain ⟨i, hi, rfl, HI⟩ := hrel
    have c1 : wr.cell? ⟨B, 1, none⟩ = some (.pointer (some ⟨V, 0, none⟩)) := (wld_cells (X8.out.belowT HI.out)).2.1
    by_cases hlt : i < os.length
    rotate_left
    · have hie : i = os.length := by omega
      have hnw := newest_any (V8.out.below HI.out) (by omega)
      rw [htl] at hnw
      have HNW := hide hnw
      have HEND := hide (B8.out.trans (HI.out.mono B8.out.size))
      clear hnw
      subst hie
      have hnew : newest th = (os.getLast?.map OnV.n).getD 0 := by
        rw [newest_s, HTH.out]
        unfold newestS
        rw [List.getLast?_map]
        cases os.getLast? <;> rfl
      rw [hnew] at HNW
      clear hnew
      by_cases h0 : os.length = 0
      · have hb0 : decide (0 < os.length) = false := by simp [h0]
        rw [hb0] at HNW
        have h0i : ¬ (0 : Int) < (os.length : Int) := by omega
        go_wp2_with (go_at_call 24; refine HNW.out.mono ?_; rintro e w11 ⟨rfl, b11⟩; have B11 := hide (HEND.out.trans (b11.mono HEND.out.size)); clear b11)
        go_ret
        exact ⟨rfl, B11.out⟩
      · obtain ⟨o, ho⟩ : ∃ o, os[os.length - 1]? = some o := ⟨_, List.getElem?_eq_getElem (by omega)⟩
        have hlast : os.getLast? = some o := by rw [List.getLast?_eq_getElem?]; exact ho
        rw [hlast] at HNW
        simp only [Option.map_some, Option.getD_some] at HNW
        have hb0 : decide (0 < os.length) = true := by simp; omega
        rw [hb0] at HNW
        have h0i : (0 : Int) < (os.length : Int) := by omega
        obtain ⟨lb, lo, hla, hlb, hcl⟩ := (HLB.out wr HI.out).at_ ho
        subst hla
        have HCL : Hid (∀ w', Below wr.heap.size wr w' → w'.cell? ⟨lb, lo + (os.length - 1) * 3, none⟩ = some (.int .u64 (o.n : Int))) := fun w' h => by
          have hb := HI.out.trans (h.mono HI.out.size)
          obtain ⟨_, _, e, _, hc⟩ := (HLB.out w' hb).at_ ho
          cases e
          simpa using hc _ o ho 0 _ rfl
        obtain ⟨q, hq⟩ : ∃ q : Nat, os.length = q + 1 := ⟨os.length - 1, by omega⟩
        have hq1 : (os.length : Int) - 1 = (q : Int) := by omega
        have hq2 : os.length - 1 = q := by omega
        rw [hq2] at HCL
        clear hcl ho hlast
        go_wp2_with (go_at_call 24; refine HNW.out.mono ?_; rintro e w11 ⟨rfl, b11⟩; have B11 := hide (HEND.out.trans (b11.mono HEND.out.size)); have c11 := HCL.out _ b11; clear b11)
        go_ret
        exact ⟨rfl, B11.out⟩
    obtain ⟨o, ho⟩ : ∃ o, os[i]? = some o := ⟨_, List.getElem?_eq_getElem hlt⟩
    have hlti : (i : Int) < (os.length : Int) := by omega
    obtain ⟨lb, lo, hla, hlb, hcl⟩ := (HLB.out wr HI.out).at_ ho
    subst hla
    have HCL : Hid (∀ w', Below wr.heap.size wr w' → w'.cell? ⟨lb, lo + i * 3, none⟩ = some (.int .u64 (o.n : Int)) ∧ w'.cell? ⟨lb, lo + i * 3 + 1, none⟩ = some (.int .u64 (o.ep : Int)) ∧ w'.cell? ⟨lb, lo + i * 3 + 2, none⟩ = some (.slice o.a o.l.length o.c)) := fun w' h => by
      have hb := HI.out.trans (h.mono HI.out.size)
      obtain ⟨_, _, e, _, hc⟩ := (HLB.out w' hb).at_ ho
      cases e
      exact ⟨by simpa using hc i o ho 0 _ rfl, by simpa using hc i o ho 1 _ rfl, by simpa using hc i o ho 2 _ rfl⟩
    have HOO := hide (HOK.out o (List.mem_of_getElem? ho))
    have hmem : o.sp ∈ th.map SpV.s := by rw [HTH.out]; exact List.mem_map.2 ⟨o, List.mem_of_getElem? ho, rfl⟩
    have hanY : th.any (fun x => x.n == o.n) = true := by
      rw [List.any_eq_true]
      obtain ⟨y, hy, hys⟩ := List.mem_map.1 hmem
      exact ⟨y, hy, by have : y.n = o.n := congrArg Sp.n hys; simp [this]⟩
    have HGT : Hid (∀ w', Below wr.heap.size wr w' → Calls Tryz.prog 25 #[.pointer (some ⟨V, 0, none⟩), .int .u64 (o.n : Int)] w' fun e w'' => ∃ a9 c9 xs9, e = .returned (.tuple #[.slice a9 o.l.length c9, .int .u64 (o.ep : Int), .int .i64 0]) ∧ OwnL 27 6 SnV.cs w'.heap.size w'' (.slice a9 o.l.length c9) xs9 ∧ (∀ x ∈ xs9, x.ok w'.heap.size w'') ∧ Below w'.heap.size w' w'' ∧ xs9.map SnV.s = o.l.map SnV.s) := fun w' h => get_on ((V8.out.below HI.out).below h) hg HS.out (by omega) hmem HOO.out
    have HHS : Hid (∀ w', Below wr.heap.size wr w' → Calls Tryz.prog 15 #[.pointer (some ⟨V, 0, none⟩), .int .u64 (o.n : Int)] w' fun e w'' => e = .returned (.bool true) ∧ Below wr.heap.size wr w'') := fun w' h => by
      have := has_any ((V8.out.below HI.out).below h) (by omega) HS.out o.n
      rw [hanY] at this
      exact this.mono fun e w'' ⟨h1, h2⟩ => ⟨h1, h.trans (h2.mono h.size)⟩
    have HBC : Hid (∀ w', Below wr.heap.size wr w' → w'.cell? ⟨B, 1, none⟩ = some (.pointer (some ⟨V, 0, none⟩)) ∧ w'.cell? ⟨w.heap.size, i, none⟩ = some (.int .u64 (o.n : Int))) := fun w' h => by
      have hb := HI.out.trans (h.mono HI.out.size)
      refine ⟨(wld_cells (X8.out.belowT hb)).2.1, ?_⟩
      rw [(HNB.out.belowT hb).cellAt]
      exact HNC.out i o ho
    have D0 : Hid (Below wr.heap.size wr wr.drew) := (Below.refl _ _).drew
    obtain ⟨x0, x1, x2⟩ := HCL.out wr (Below.refl _ _)
    have HAN := hide hanY
    clear hcl ho hmem hanY
    go_wp2_with fail
    go_region_held3 (fun w' => w'.cell? ⟨B, 1, none⟩ = some (.pointer (some ⟨V, 0, none⟩)) ∧ w'.cell? ⟨lb, lo + i * 3, none⟩ = some (.int .u64 (o.n : Int))) (first | go_keep | exact ⟨c1, x0⟩ | exact ⟨(HBC.out _ D1.out).1, (HCL.out _ D1.out).1⟩) (first | (go_at_call 25; refine (HGT.out _ D0.out).mono ?_; rintro e w9 ⟨a9, c9, xs9, rfl, o9, k9, b9, i9⟩; have D1 : Hid (Below wr.heap.size wr w9) := D0.out.trans (b9.mono D0.out.size); have HG9 : Hid (OwnL 27 6 SnV.cs wr.heap.size w9 (.slice a9 o.l.length c9) xs9 ∧ (∀ x ∈ xs9, x.ok wr.heap.size w9) ∧ xs9.map SnV.s = o.l.map SnV.s) := ⟨o9, k9, i9⟩; clear o9 k9 b9 i9))
    clear x0 x1 x2 c1
    have KC : Hid (∀ w' : World, Below w9.heap.size w9 w' → w'.cell? ⟨w.heap.size, i, none⟩ = some (.int .u64 (o.n : Int)) ∧ w'.cell? ⟨lb, lo + i * 3, none⟩ = some (.int .u64 (o.n : Int)) ∧ w'.cell? ⟨lb, lo + i * 3 + 1, none⟩ = some (.int .u64 (o.ep : Int)) ∧ w'.cell? ⟨lb, lo + i * 3 + 2, none⟩ = some (.slice o.a o.l.length o.c) ∧ w'.cell? ⟨B, 1, none⟩ = some (.pointer (some ⟨V, 0, none⟩))) := fun w' h => by
      have hb := D1.out.trans (h.mono D1.out.size)
      obtain ⟨q0, q1⟩ := HBC.out w' hb
      obtain ⟨r0, r1, r2⟩ := HCL.out w' hb
      exact ⟨q1, r0, r1, r2, q0⟩
    have HHS9 : Hid (∀ w', Below w9.heap.size w9 w' → Calls Tryz.prog 15 #[.pointer (some ⟨V, 0, none⟩), .int .u64 (o.n : Int)] w' fun e w'' => e = .returned (.bool true) ∧ Below w9.heap.size w9 w'') := fun w' h => by
      have hb := D1.out.trans (h.mono D1.out.size)
      have h1 := (HI.out.trans (hb.mono HI.out.size))
      have := has_any (V8.out.below h1) (by omega) HS.out o.n
      rw [HAN.out] at this
      exact this.mono fun e w'' ⟨h1, h2⟩ => ⟨h1, h.trans (h2.mono h.size)⟩
    clear HHS HGT
    go_wp2_with fail
    have B1 : Hid (Below (w9).heap.size (w9) (w9).drew) := (Below.refl _ _).drew
    refine wp_region_M (S := fun w' => w'.cell? ⟨w.heap.size, i, none⟩ = some (.int .u64 (o.n : Int)) ∧ w'.cell? ⟨lb, lo + i * 3, none⟩ = some (.int .u64 (o.n : Int)) ∧ w'.cell? ⟨lb, lo + i * 3 + 1, none⟩ = some (.int .u64 (o.ep : Int)) ∧ w'.cell? ⟨lb, lo + i * 3 + 2, none⟩ = some (.slice o.a o.l.length o.c) ∧ w'.cell? ⟨B, 1, none⟩ = some (.pointer (some ⟨V, 0, none⟩))) (late := []) (by kernel_rfl) (KC.out _ B1.out) (fun hHeld => ?_)
    (try simp only [List.size_toArray, List.length_cons, List.length_nil, Nat.zero_add, Nat.reduceAdd, Array.replicate, List.replicate])
    refine wpAnyM_take (i := 0) (oi := ⟨_, _, _, _, _, _⟩) (v := ?_) rfl (by kernel_rfl) (by kernel_rfl) (by kernel_rfl) (by kernel_rfl) (fun _ _ _ h => h) (Or.inl ⟨by rfl, ?_⟩) hHeld ?_
    rotate_left
    · (intro w' hSw; (try dsimp only at hSw); go_simp; try (with_reducible rfl))
    (try simp only [Act.put, List.setIfInBounds_toArray, List.set_cons_zero, List.set_cons_succ])
    refine wpAnyM_take (i := 1) (oi := ⟨_, _, _, _, _, _⟩) (v := ?_) rfl (by kernel_rfl) (by kernel_rfl) (by kernel_rfl) (by kernel_rfl) (fun _ _ _ h => h) (Or.inl ⟨by rfl, ?_⟩) hHeld ?_
    rotate_left
    · (intro w' hSw; (try dsimp only at hSw); go_simp; try (with_reducible rfl))
    (try simp only [Act.put, List.setIfInBounds_toArray, List.set_cons_zero, List.set_cons_succ])
    refine wpAnyM_take (i := 2) (oi := ⟨_, _, _, _, _, _⟩) (v := ?_) rfl (by kernel_rfl) (by kernel_rfl) (by kernel_rfl) (by kernel_rfl) (fun _ _ _ h => h) (Or.inl ⟨by rfl, ?_⟩) hHeld ?_
    rotate_left
    · (intro w' hSw; (try dsimp only at hSw); go_simp; try (with_reducible rfl))
    (try simp only [Act.put, List.setIfInBounds_toArray, List.set_cons_zero, List.set_cons_succ])
    refine wpAnyM_take (i := 3) (oi := ⟨_, _, _, _, _, _⟩) (v := ?_) rfl (by kernel_rfl) (by kernel_rfl) (by kernel_rfl) (by kernel_rfl) (fun _ _ _ h => h) (Or.inl ⟨by rfl, ?_⟩) hHeld ?_
    rotate_left
    · (intro w' hSw; (try dsimp only at hSw); go_simp; try (with_reducible rfl))
    (try simp only [Act.put, List.setIfInBounds_toArray, List.set_cons_zero, List.set_cons_succ])
    refine wpAnyM_take (i := 4) (oi := ⟨_, _, _, _, _, _⟩) (v := ?_) rfl (by kernel_rfl) (by kernel_rfl) (by kernel_rfl) (by kernel_rfl) (fun _ _ _ h => h) (Or.inl ⟨by rfl, ?_⟩) hHeld ?_
    rotate_left
    · (intro w' hSw; (try dsimp only at hSw); go_simp; try (with_reducible rfl))
    (try simp only [Act.put, List.setIfInBounds_toArray, List.set_cons_zero, List.set_cons_succ])
    refine wpAnyM_take (i := 5) (oi := ⟨_, _, _, _, _, _⟩) (v := ?_) rfl (by kernel_rfl) (by kernel_rfl) (by kernel_rfl) (by kernel_rfl) (fun _ _ _ h => h) (Or.inl ⟨by rfl, ?_⟩) hHeld ?_
    rotate_left
    · (intro w' hSw; (try dsimp only at hSw); go_simp; try (with_reducible rfl))
    (try simp only [Act.put, List.setIfInBounds_toArray, List.set_cons_zero, List.set_cons_succ])
    refine wpAnyM_take (i := 6) (oi := ⟨_, _, _, _, _, _⟩) (v := ?_) rfl (by kernel_rfl) (by kernel_rfl) (by kernel_rfl) (by kernel_rfl) (fun _ _ _ h => h) (Or.inl ⟨by rfl, ?_⟩) hHeld ?_
    rotate_left
    · (intro w' hSw; (try dsimp only at hSw); go_simp; try (with_reducible rfl))
    (try simp only [Act.put, List.setIfInBounds_toArray, List.set_cons_zero, List.set_cons_succ])
    refine wpAnyM_take (i := 7) (oi := ⟨_, _, _, _, _, _⟩) (v := ?_) rfl (by kernel_rfl) (by kernel_rfl) (by kernel_rfl) (by kernel_rfl) (fun _ _ _ h => h) (Or.inl ⟨by rfl, ?_⟩) hHeld ?_
    rotate_left
    · (intro w' hSw; (try dsimp only at hSw); go_simp; try (with_reducible rfl))
    (try simp only [Act.put, List.setIfInBounds_toArray, List.set_cons_zero, List.set_cons_succ])
    refine wpAnyM_take (i := 8) (oi := ⟨_, _, _, _, _, _⟩) (v := ?_) rfl (by kernel_rfl) (by kernel_rfl) (by kernel_rfl) (by kernel_rfl) (fun _ _ _ h => h) (Or.inl ⟨by rfl, ?_⟩) hHeld ?_
    rotate_left
    · (intro w' hSw; (try dsimp only at hSw); go_simp; try (with_reducible rfl))
    (try simp only [Act.put, List.setIfInBounds_toArray, List.set_cons_zero, List.set_cons_succ])
    refine wpAnyM_take (i := 9) (oi := ⟨_, _, _, _, _, _⟩) (v := ?_) rfl (by kernel_rfl) (by kernel_rfl) (by kernel_rfl) (by kernel_rfl) (fun _ _ _ h => h) (Or.inl ⟨by rfl, ?_⟩) hHeld ?_
    rotate_left
    · (intro w' hSw; (try dsimp only at hSw); go_simp; try (with_reducible rfl))
    (try simp only [Act.put, List.setIfInBounds_toArray, List.set_cons_zero, List.set_cons_succ])
    refine wpAnyM_take (i := 10) (oi := ⟨_, _, _, _, _, _⟩) (v := ?_) rfl (by kernel_rfl) (by kernel_rfl) (by kernel_rfl) (by kernel_rfl) (fun _ _ _ h => h) (Or.inl ⟨by rfl, ?_⟩) hHeld ?_
    rotate_left
    · (intro w' hSw; (try dsimp only at hSw); go_simp; try (with_reducible rfl))
    (try simp only [Act.put, List.setIfInBounds_toArray, List.set_cons_zero, List.set_cons_succ])
    refine wpAnyM_take (i := 11) (oi := ⟨_, _, _, _, _, _⟩) (v := ?_) rfl (by kernel_rfl) (by kernel_rfl) (by kernel_rfl) (by kernel_rfl) (fun _ _ _ h => h) (Or.inl ⟨by rfl, ?_⟩) hHeld ?_
    rotate_left
    · (intro w' hSw; (try dsimp only at hSw); go_simp; try (with_reducible rfl))
    (try simp only [Act.put, List.setIfInBounds_toArray, List.set_cons_zero, List.set_cons_succ])
    refine wpAnyM_take (i := 12) (oi := ⟨_, _, _, _, _, _⟩) (v := ?_) rfl (by kernel_rfl) (by kernel_rfl) (by kernel_rfl) (by kernel_rfl) (fun _ _ _ h => h) (Or.inl ⟨by rfl, ?_⟩) hHeld ?_
    rotate_left
    · (intro w' hSw; (try dsimp only at hSw); go_simp; try (with_reducible rfl))
    (try simp only [Act.put, List.setIfInBounds_toArray, List.set_cons_zero, List.set_cons_succ])
    refine wpAnyM_take (i := 13) (oi := ⟨_, _, _, _, _, _⟩) (v := ?_) rfl (by kernel_rfl) (by kernel_rfl) (by kernel_rfl) (by kernel_rfl) (fun _ _ _ h => h) (Or.inl ⟨by rfl, ?_⟩) hHeld ?_
    rotate_left
    · (intro w' hSw; (try dsimp only at hSw); go_simp; try (with_reducible rfl))
    (try simp only [Act.put, List.setIfInBounds_toArray, List.set_cons_zero, List.set_cons_succ])
    refine wpAnyM_take (i := 14) (oi := ⟨_, _, _, _, _, _⟩) (v := ?_) rfl (by kernel_rfl) (by kernel_rfl) (by kernel_rfl) (by kernel_rfl) (fun _ _ _ h => h) (Or.inl ⟨by rfl, ?_⟩) hHeld ?_
    rotate_left
    · (intro w' hSw; (try dsimp only at hSw); go_simp; try (with_reducible rfl))
    (try simp only [Act.put, List.setIfInBounds_toArray, List.set_cons_zero, List.set_cons_succ])
    refine wpAnyM_take (i := 15) (oi := ⟨_, _, _, _, _, _⟩) (v := ?_) rfl (by kernel_rfl) (by kernel_rfl) (by kernel_rfl) (by kernel_rfl) (fun _ _ _ h => h) (Or.inl ⟨by rfl, ?_⟩) hHeld ?_
    rotate_left
    · (intro w' hSw; (try dsimp only at hSw); go_simp; try (with_reducible rfl))
    (try simp only [Act.put, List.setIfInBounds_toArray, List.set_cons_zero, List.set_cons_succ])
    refine wpAnyM_take (i := 16) (oi := ⟨_, _, _, _, _, _⟩) (v := ?_) rfl (by kernel_rfl) (by kernel_rfl) (by kernel_rfl) (by kernel_rfl) (fun _ _ _ h => h) (Or.inl ⟨by rfl, ?_⟩) hHeld ?_
    rotate_left
    · (intro w' hSw; (try dsimp only at hSw); go_simp; try (with_reducible rfl))
    (try simp only [Act.put, List.setIfInBounds_toArray, List.set_cons_zero, List.set_cons_succ])
    refine wpAnyM_take (i := 17) (oi := ⟨_, _, _, _, _, _⟩) (v := ?_) rfl (by kernel_rfl) (by kernel_rfl) (by kernel_rfl) (by kernel_rfl) (fun _ _ _ h => h) (Or.inl ⟨by rfl, ?_⟩) hHeld ?_
    rotate_left
    · (intro w' hSw; (try dsimp only at hSw); go_simp; try (with_reducible rfl))
    (try simp only [Act.put, List.setIfInBounds_toArray, List.set_cons_zero, List.set_cons_succ])
    refine wpAnyM_take (i := 18) (oi := ⟨_, _, _, _, _, _⟩) (v := ?_) rfl (by kernel_rfl) (by kernel_rfl) (by kernel_rfl) (by kernel_rfl) (fun _ _ _ h => h) (Or.inl ⟨by rfl, ?_⟩) hHeld ?_
    rotate_left
    · (intro w' hSw; (try dsimp only at hSw); go_simp; try (with_reducible rfl))
    (try simp only [Act.put, List.setIfInBounds_toArray, List.set_cons_zero, List.set_cons_succ])
    refine wpAnyM_take (i := 19) (oi := ⟨_, _, _, _, _, _⟩) (v := ?_) rfl (by kernel_rfl) (by kernel_rfl) (by kernel_rfl) (by kernel_rfl) (fun _ _ _ h => h) (Or.inl ⟨by rfl, ?_⟩) hHeld ?_
    rotate_left
    · (intro w' hSw; (try dsimp only at hSw); go_simp; try (with_reducible rfl))
    (try simp only [Act.put, List.setIfInBounds_toArray, List.set_cons_zero, List.set_cons_succ])
    refine wpAnyM_take (i := 20) (oi := ⟨_, _, _, _, _, _⟩) (v := ?_) rfl (by kernel_rfl) (by kernel_rfl) (by kernel_rfl) (by kernel_rfl) (fun _ _ _ h => h) (Or.inl ⟨by rfl, ?_⟩) hHeld ?_
    rotate_left
    · (intro w' hSw; (try dsimp only at hSw); go_simp; try (with_reducible rfl))
    (try simp only [Act.put, List.setIfInBounds_toArray, List.set_cons_zero, List.set_cons_succ])
    refine wpAnyM_take (i := 21) (oi := ⟨_, _, _, _, _, _⟩) (v := ?_) rfl (by kernel_rfl) (by kernel_rfl) (by kernel_rfl) (by kernel_rfl) (fun _ _ _ h => h) (Or.inl ⟨by rfl, ?_⟩) hHeld ?_
    rotate_left
    · (intro w' hSw; (try dsimp only at hSw); go_simp; try (with_reducible rfl))
    (try simp only [Act.put, List.setIfInBounds_toArray, List.set_cons_zero, List.set_cons_succ])
    refine wpAnyM_take (i := 22) (oi := ⟨_, _, _, _, _, _⟩) (v := ?_) rfl (by kernel_rfl) (by kernel_rfl) (by kernel_rfl) (by kernel_rfl) (fun _ _ _ h => h) (Or.inl ⟨by rfl, ?_⟩) hHeld ?_
    rotate_left
    · (intro w' hSw; (try dsimp only at hSw); go_simp; try (with_reducible rfl))
    (try simp only [Act.put, List.setIfInBounds_toArray, List.set_cons_zero, List.set_cons_succ])
    refine wpAnyM_take (i := 23) (oi := ⟨_, _, _, _, _, _⟩) (v := ?_) rfl (by kernel_rfl) (by kernel_rfl) (by kernel_rfl) (by kernel_rfl) (fun _ _ _ h => h) (Or.inl ⟨by rfl, ?_⟩) hHeld ?_
    rotate_left
    · (intro w' hSw; (try dsimp only at hSw); go_simp; try (with_reducible rfl))
    (try simp only [Act.put, List.setIfInBounds_toArray, List.set_cons_zero, List.set_cons_succ])
    refine wpAnyM_take (i := 24) (oi := ⟨_, _, _, _, _, _⟩) (v := ?_) rfl (by kernel_rfl) (by kernel_rfl) (by kernel_rfl) (by kernel_rfl) (fun _ _ _ h => h) (Or.inl ⟨by rfl, ?_⟩) hHeld ?_
    rotate_left
    · (intro w' hSw; (try dsimp only at hSw); go_simp; try (with_reducible rfl))
    (try simp only [Act.put, List.setIfInBounds_toArray, List.set_cons_zero, List.set_cons_succ])
    refine wpAnyM_take (i := 25) (oi := ⟨_, _, _, _, _, _⟩) (v := ?_) rfl (by kernel_rfl) (by kernel_rfl) (by kernel_rfl) (by kernel_rfl) (fun _ _ _ h => h) (Or.inl ⟨by rfl, ?_⟩) hHeld ?_
    rotate_left
    · (intro w' hSw; (try dsimp only at hSw); go_simp; try (with_reducible rfl))
    (try simp only [Act.put, List.setIfInBounds_toArray, List.set_cons_zero, List.set_cons_succ])
    refine wpAnyM_take (i := 26) (oi := ⟨_, _, _, _, _, _⟩) (v := ?_) rfl (by kernel_rfl) (by kernel_rfl) (by kernel_rfl) (by kernel_rfl) (fun _ _ _ h => h) (Or.inl ⟨by rfl, ?_⟩) hHeld ?_
    rotate_left
    · (intro w' hSw; (try dsimp only at hSw); go_simp; try (with_reducible rfl))
    (try simp only [Act.put, List.setIfInBounds_toArray, List.set_cons_zero, List.set_cons_succ])
    refine wpAnyM_take (i := 27) (oi := ⟨_, _, _, _, _, _⟩) (v := ?_) rfl (by kernel_rfl) (by kernel_rfl) (by kernel_rfl) (by kernel_rfl) (fun _ _ _ h => h) (Or.inl ⟨by rfl, ?_⟩) hHeld ?_
    rotate_left
    · (intro w' hSw; (try dsimp only at hSw); go_simp; try (with_reducible rfl))
    (try simp only [Act.put, List.setIfInBounds_toArray, List.set_cons_zero, List.set_cons_succ])
    refine wpAnyM_take (i := 28) (oi := ⟨_, _, _, _, _, _⟩) (v := ?_) rfl (by kernel_rfl) (by kernel_rfl) (by kernel_rfl) (by kernel_rfl) (fun _ _ _ h => h) (Or.inl ⟨by rfl, ?_⟩) hHeld ?_
    rotate_left
    · (intro w' hSw; (try dsimp only at hSw); go_simp; try (with_reducible rfl))
    (try simp only [Act.put, List.setIfInBounds_toArray, List.set_cons_zero, List.set_cons_succ])
    refine wpAnyM_take (i := 29) (oi := ⟨_, _, _, _, _, _⟩) (v := ?_) rfl (by kernel_rfl) (by kernel_rfl) (by kernel_rfl) (by kernel_rfl) (fun _ _ _ h => h) (Or.inl ⟨by rfl, ?_⟩) hHeld ?_
    rotate_left
    · (intro w' hSw; (try dsimp only at hSw); go_simp; try (with_reducible rfl))
    (try simp only [Act.put, List.setIfInBounds_toArray, List.set_cons_zero, List.set_cons_succ])
    refine wpAnyM_take (i := 30) (oi := ⟨_, _, _, _, _, _⟩) (v := ?_) rfl (by kernel_rfl) (by kernel_rfl) (by kernel_rfl) (by kernel_rfl) (fun _ _ _ h => h) (Or.inl ⟨by rfl, ?_⟩) hHeld ?_
    rotate_left
    · (intro w' hSw; (try dsimp only at hSw); go_simp; try (with_reducible rfl))
    (try simp only [Act.put, List.setIfInBounds_toArray, List.set_cons_zero, List.set_cons_succ])
    refine wpAnyM_take (i := 31) (oi := ⟨_, _, _, _, _, _⟩) (v := ?_) rfl (by kernel_rfl) (by kernel_rfl) (by kernel_rfl) (by kernel_rfl) (fun _ _ _ h => h) (Or.inl ⟨by rfl, ?_⟩) hHeld ?_
    rotate_left
    · (intro w' hSw; (try dsimp only at hSw); go_simp; try (with_reducible rfl))
    (try simp only [Act.put, List.setIfInBounds_toArray, List.set_cons_zero, List.set_cons_succ])
    refine wpAnyM_take (i := 32) (oi := ⟨_, _, _, _, _, _⟩) (v := ?_) rfl (by kernel_rfl) (by kernel_rfl) (by kernel_rfl) (by kernel_rfl) (fun _ _ _ h => h) (Or.inl ⟨by rfl, ?_⟩) hHeld ?_
    rotate_left
    · (intro w' hSw; (try dsimp only at hSw); go_simp; try (with_reducible rfl))
    (try simp only [Act.put, List.setIfInBounds_toArray, List.set_cons_zero, List.set_cons_succ])
    refine wpAnyM_take (i := 33) (oi := ⟨_, _, _, _, _, _⟩) (v := ?_) rfl (by kernel_rfl) (by kernel_rfl) (by kernel_rfl) (by kernel_rfl) (fun _ _ _ h => h) (Or.inl ⟨by rfl, ?_⟩) hHeld ?_
    rotate_left
    · (intro w' hSw; (try dsimp only at hSw); go_simp; try (with_reducible rfl))
    (try simp only [Act.put, List.setIfInBounds_toArray, List.set_cons_zero, List.set_cons_succ])
    refine wpAnyM_take (i := 34) (oi := ⟨_, _, _, _, _, _⟩) (v := ?_) rfl (by kernel_rfl) (by kernel_rfl) (by kernel_rfl) (by kernel_rfl) (fun _ _ _ h => h) (Or.inl ⟨by rfl, ?_⟩) hHeld ?_
    rotate_left
    · (intro w' hSw; (try dsimp only at hSw); go_simp; try (with_reducible rfl))
    (try simp only [Act.put, List.setIfInBounds_toArray, List.set_cons_zero, List.set_cons_succ])
    refine wpAnyM_take (i := 35) (oi := ⟨_, _, _, _, _, _⟩) (v := ?_) rfl (by kernel_rfl) (by kernel_rfl) (by kernel_rfl) (by kernel_rfl) (fun _ _ _ h => h) (Or.inl ⟨by rfl, ?_⟩) hHeld ?_
    rotate_left
    · (intro w' hSw; (try dsimp only at hSw); go_simp; try (with_reducible rfl))
    (try simp only [Act.put, List.setIfInBounds_toArray, List.set_cons_zero, List.set_cons_succ])
    refine wpAnyM_take (i := 36) (oi := ⟨_, _, _, _, _, _⟩) (v := ?_) rfl (by kernel_rfl) (by kernel_rfl) (by kernel_rfl) (by kernel_rfl) (fun _ _ _ h => h) (Or.inl ⟨by rfl, ?_⟩) hHeld ?_
    rotate_left
    · (intro w' hSw; (try dsimp only at hSw); go_simp; try (with_reducible rfl))
    (try simp only [Act.put, List.setIfInBounds_toArray, List.set_cons_zero, List.set_cons_succ])
    refine wpAnyM_take (i := 37) (oi := ⟨_, _, _, _, _, _⟩) (v := ?_) rfl (by kernel_rfl) (by kernel_rfl) (by kernel_rfl) (by kernel_rfl) (fun _ _ _ h => h) (Or.inl ⟨by rfl, ?_⟩) hHeld ?_
    rotate_left
    · (intro w' hSw; (try dsimp only at hSw); go_simp; try (with_reducible rfl))
    (try simp only [Act.put, List.setIfInBounds_toArray, List.set_cons_zero, List.set_cons_succ])
    refine wpAnyM_take (i := 38) (oi := ⟨_, _, _, _, _, _⟩) (v := ?_) rfl (by kernel_rfl) (by kernel_rfl) (by kernel_rfl) (by kernel_rfl) (fun _ _ _ h => h) (Or.inl ⟨by rfl, ?_⟩) hHeld ?_
    rotate_left
    · (intro w' hSw; (try dsimp only at hSw); go_simp; try (with_reducible rfl))
    (try simp only [Act.put, List.setIfInBounds_toArray, List.set_cons_zero, List.set_cons_succ])
    refine wpAnyM_take (i := 39) (oi := ⟨_, _, _, _, _, _⟩) (v := ?_) rfl (by kernel_rfl) (by kernel_rfl) (by kernel_rfl) (by kernel_rfl) (fun _ _ _ h => h) (Or.inl ⟨by rfl, ?_⟩) hHeld ?_
    rotate_left
    · (intro w' hSw; (try dsimp only at hSw); go_simp; try (with_reducible rfl))
    (try simp only [Act.put, List.setIfInBounds_toArray, List.set_cons_zero, List.set_cons_succ])
    refine wpAnyM_take (i := 40) (oi := ⟨_, _, _, _, _, _⟩) (v := ?_) rfl (by kernel_rfl) (by kernel_rfl) (by kernel_rfl) (by kernel_rfl) (fun _ _ _ h => h) (Or.inl ⟨by rfl, ?_⟩) hHeld ?_
    rotate_left
    · (intro w' hSw; (try dsimp only at hSw); go_simp; try (with_reducible rfl))
    (try simp only [Act.put, List.setIfInBounds_toArray, List.set_cons_zero, List.set_cons_succ])
    refine wpAnyM_take (i := 41) (oi := ⟨_, _, _, _, _, _⟩) (v := ?_) rfl (by kernel_rfl) (by kernel_rfl) (by kernel_rfl) (by kernel_rfl) (fun _ _ _ h => h) (Or.inl ⟨by rfl, ?_⟩) hHeld ?_
    rotate_left
    · (intro w' hSw; (try dsimp only at hSw); go_simp; try (with_reducible rfl))
    (try simp only [Act.put, List.setIfInBounds_toArray, List.set_cons_zero, List.set_cons_succ])
    refine wpAnyM_take (i := 42) (oi := ⟨_, _, _, _, _, _⟩) (v := ?_) rfl (by kernel_rfl) (by kernel_rfl) (by kernel_rfl) (by kernel_rfl) (fun _ _ _ h => h) (Or.inl ⟨by rfl, ?_⟩) hHeld ?_
    rotate_left
    · (intro w' hSw; (try dsimp only at hSw); go_simp; try (with_reducible rfl))
    (try simp only [Act.put, List.setIfInBounds_toArray, List.set_cons_zero, List.set_cons_succ])
    refine wpAnyM_take (i := 43) (oi := ⟨_, _, _, _, _, _⟩) (v := ?_) rfl (by kernel_rfl) (by kernel_rfl) (by kernel_rfl) (by kernel_rfl) (fun _ _ _ h => h) (Or.inl ⟨by rfl, ?_⟩) hHeld ?_
    rotate_left
    · (intro w' hSw; (try dsimp only at hSw); go_simp; try (with_reducible rfl))
    (try simp only [Act.put, List.setIfInBounds_toArray, List.set_cons_zero, List.set_cons_succ])
    refine wpAnyM_one (i := 44) (o := ⟨_, _, _, _, _, _⟩) (by kernel_rfl) rfl (fun K hK => ?_)
    go_simp
    go_at_call 15
    refine (HHS9.out _ B1.out).mono ?_
    rintro e w10 ⟨rfl, hb⟩
    have B2 := hide hb
    refine hK.out _ _ (KC.out _ hb) (fun hHeld => ?_)
    clear hK K hb
    (try simp only [List.setIfInBounds_toArray, List.set_cons_zero, List.set_cons_succ])
    refine wpAnyM_take (i := 45) (oi := ⟨_, _, _, _, _, _⟩) (v := ?_) rfl (by kernel_rfl) (by kernel_rfl) (by kernel_rfl) (by kernel_rfl) (fun _ _ _ h => h) (Or.inl ⟨by rfl, ?_⟩) hHeld ?_
    rotate_left
    · (intro w' hSw; (try dsimp only at hSw); go_simp; try (with_reducible rfl))
    (try simp only [Act.put, List.setIfInBounds_toArray, List.set_cons_zero, List.set_cons_succ])
    refine wpAnyM_take (i := 46) (oi := ⟨_, _, _, _, _, _⟩) (v := ?_) rfl (by kernel_rfl) (by kernel_rfl) (by kernel_rfl) (by kernel_rfl) (fun _ _ _ h => h) (Or.inl ⟨by rfl, ?_⟩) hHeld ?_
    rotate_left
    · (intro w' hSw; (try dsimp only at hSw); go_simp; try (with_reducible rfl))
    (try simp only [Act.put, List.setIfInBounds_toArray, List.set_cons_zero, List.set_cons_succ])
    refine wpAnyM_done (by kernel_rfl) ?_ _
    have D2 : Hid (Below wr.heap.size wr w10) := D1.out.trans (B2.out.mono D1.out.size)
    obtain ⟨wv, hwv⟩ : ∃ x, x = wr := ⟨_, rfl⟩
    subst hwv
    have HG10 : Hid (OwnL 27 6 SnV.cs wv.heap.size w10 (.slice a9 o.l.length c9) xs9 ∧ (∀ x ∈ xs9, x.ok wv.heap.size w10) ∧ xs9.map SnV.s = o.l.map SnV.s) := ⟨HG9.out.1.below B2.out, fun x hx => (HG9.out.2.1 x hx).below B2.out, HG9.out.2.2⟩
    have hxl : xs9.length = o.l.length := by
      have h1 := congrArg List.length HG9.out.2.2
      rwa [List.length_map, List.length_map] at h1
    have HXL := hide hxl
    have HSW : Hid (Below w0.heap.size w0 w10) := (V8.out.below (HI.out.trans (D2.out.mono HI.out.size))).st.since
    have htlo : o.l.length * 10 ≤ 20000 := Nat.le_trans (len_w o.l) HOO.out.wg
    clear hxl HG9
    go_wp2_with fail
    go_loopw [10] (fun kv wq => ∃ k3 : Nat, k3 ≤ o.l.length ∧ kv = .int .i64 (k3 : Int) ∧ Hid (Below w10.heap.size w10 wq)) (fun kv _ => o.l.length - (intOf kv).toNat)
    case atStart => exact ⟨0, Nat.zero_le _, rfl, Below.refl _ _⟩
    case round =>
      obtain ⟨k3, hk3, rfl, HI3⟩ := hrel
      by_cases hlt3 : k3 < o.l.length
      rotate_left
      · have HEN := hide (HI.out.trans ((D2.out.trans (HI3.out.mono D2.out.size)).mono HI.out.size))
        go_wp2
        go_roundw
        case rel => exact ⟨i + 1, by omega, by go_num, HEN.out⟩
        case measure => simp [intOf]; omega
      have hlt3i : (k3 : Int) < (o.l.length : Int) := by omega
      obtain ⟨z, hz⟩ : ∃ z, o.l[k3]? = some z := ⟨_, List.getElem?_eq_getElem hlt3⟩
      obtain ⟨y, hy⟩ : ∃ y, xs9[k3]? = some y := ⟨_, List.getElem?_eq_getElem (by rw [HXL.out]; exact hlt3)⟩
      have hyz : y.s = z.s := by
        have h1 := congrArg (fun l => l[k3]?) HG10.out.2.2
        simpa [hy, hz] using h1
      have hsw : Below w0.heap.size w0 wr := HSW.out.trans (HI3.out.mono HSW.out.size)
      have hzs : SnSeg wr.heap.size wr (.slice z.am z.s.marks.length z.cm) (.slice z.ap z.s.panes.length z.cp) (.slice z.ac z.s.outs.length z.cc) z.s := ((HOO.out.sn.each z (List.mem_of_getElem? hz)).below hsw).mono hsw.size
      have hlz := hzs.lens
      have hys : SnSeg wr.heap.size wr (.slice y.am y.s.marks.length y.cm) (.slice y.ap y.s.panes.length y.cp) (.slice y.ac y.s.outs.length y.cc) y.s := OwnSn.segG ((HG10.out.2.1 y (List.mem_of_getElem? hy)).below HI3.out) (by rw [hyz]; exact hlz)
      have hdr : Below wr.heap.size wr wr.drew := (Below.refl _ _).drew
      have hhs := @helpSnap_any decPn decOt decSn y.s z.s _ _ _ _ _ _ wr.drew (hys.below hdr) (hzs.below hdr)
      rw [show (@decide (y.s = z.s) (decSn y.s z.s)) = true from @decide_eq_true _ (decSn y.s z.s) hyz] at hhs
      have hhs2 := hide hhs
      clear hhs
      obtain ⟨g9, o9, p9, e9, hc9⟩ := (Row.of_own HG10.out.1).read (fun _ => rfl) hy
      have e91 := (Value.slice.inj e9).1
      have e93 := (Value.slice.inj e9).2.2
      subst e91
      subst e93
      have hgl9 : g9 < w10.heap.size := by
        obtain ⟨cur, hcur⟩ := (Row.of_own HG10.out.1).has g9 rfl
        exact hcur.lt
      have cy : ∀ j u, (SnV.cs y)[j]? = some u → wr.cell? ⟨g9, o9 + k3 * 6 + j, none⟩ = some u := fun j u hu => by
        rw [Nat.add_assoc]
        exact (HI3.out.cell (p := ⟨g9, o9 + (k3 * 6 + j), none⟩) hgl9).trans (hc9 j u hu)
      obtain ⟨gz, oz, ez, hgz, hcz⟩ := HOO.out.sn.row.at_ hz
      have cz : ∀ j u, (SnV.cs z)[j]? = some u → wr.cell? ⟨gz, oz + k3 * 6 + j, none⟩ = some u := fun j u hu => (hsw.cell (p := ⟨gz, oz + k3 * 6 + j, none⟩) hgz).trans (hcz k3 z hz j u hu)
      obtain ⟨-, -, q2⟩ := HCL.out wr (D2.out.trans (HI3.out.mono D2.out.size))
      rw [ez] at q2
      have y0 := cy 0 _ rfl
      have y1 := cy 1 _ rfl
      have y2 := cy 2 _ rfl
      have y3 := cy 3 _ rfl
      have y4 := cy 4 _ rfl
      have y5 := cy 5 _ rfl
      have z0 := cz 0 _ rfl
      have z1 := cz 1 _ rfl
      have z2 := cz 2 _ rfl
      have z3 := cz 3 _ rfl
      have z4 := cz 4 _ rfl
      have z5 := cz 5 _ rfl
      simp only [Nat.add_zero] at y0 z0
      have HDR := hide hdr
      clear hdr cy cz hc9 hcz hys hzs hyz hz hy hsw hlz e9 ez
      go_wp2_with fail
      go_region_held3 (fun w' => w'.cell? ⟨g9, o9 + k3 * 6, none⟩ = some (.int .i64 y.s.task) ∧ w'.cell? ⟨g9, o9 + k3 * 6 + 1, none⟩ = some (.int .i64 y.s.off) ∧ w'.cell? ⟨g9, o9 + k3 * 6 + 2, none⟩ = some (.int .i64 y.s.mark) ∧ w'.cell? ⟨g9, o9 + k3 * 6 + 3, none⟩ = some (.slice y.am y.s.marks.length y.cm) ∧ w'.cell? ⟨g9, o9 + k3 * 6 + 4, none⟩ = some (.slice y.ap y.s.panes.length y.cp) ∧ w'.cell? ⟨g9, o9 + k3 * 6 + 5, none⟩ = some (.slice y.ac y.s.outs.length y.cc) ∧ w'.cell? ⟨gz, oz + k3 * 6, none⟩ = some (.int .i64 z.s.task) ∧ w'.cell? ⟨gz, oz + k3 * 6 + 1, none⟩ = some (.int .i64 z.s.off) ∧ w'.cell? ⟨gz, oz + k3 * 6 + 2, none⟩ = some (.int .i64 z.s.mark) ∧ w'.cell? ⟨gz, oz + k3 * 6 + 3, none⟩ = some (.slice z.am z.s.marks.length z.cm) ∧ w'.cell? ⟨gz, oz + k3 * 6 + 4, none⟩ = some (.slice z.ap z.s.panes.length z.cp) ∧ w'.cell? ⟨gz, oz + k3 * 6 + 5, none⟩ = some (.slice z.ac z.s.outs.length z.cc) ∧ w'.cell? ⟨lb, lo + i * 3 + 2, none⟩ = some (.slice (some ⟨gz, oz, none⟩) o.l.length o.c)) (first | exact ⟨y0, y1, y2, y3, y4, y5, z0, z1, z2, z3, z4, z5, q2⟩ | exact HC.out) (first | (go_at_call 26; refine hhs2.out.mono ?_; rintro e w15 ⟨rfl, b10⟩; have b10 : Below wr.heap.size wr w15 := HDR.out.trans b10; have B10 := hide b10; have HC : Hid ((fun w' : World => w'.cell? ⟨g9, o9 + k3 * 6, none⟩ = some (.int .i64 y.s.task) ∧ w'.cell? ⟨g9, o9 + k3 * 6 + 1, none⟩ = some (.int .i64 y.s.off) ∧ w'.cell? ⟨g9, o9 + k3 * 6 + 2, none⟩ = some (.int .i64 y.s.mark) ∧ w'.cell? ⟨g9, o9 + k3 * 6 + 3, none⟩ = some (.slice y.am y.s.marks.length y.cm) ∧ w'.cell? ⟨g9, o9 + k3 * 6 + 4, none⟩ = some (.slice y.ap y.s.panes.length y.cp) ∧ w'.cell? ⟨g9, o9 + k3 * 6 + 5, none⟩ = some (.slice y.ac y.s.outs.length y.cc) ∧ w'.cell? ⟨gz, oz + k3 * 6, none⟩ = some (.int .i64 z.s.task) ∧ w'.cell? ⟨gz, oz + k3 * 6 + 1, none⟩ = some (.int .i64 z.s.off) ∧ w'.cell? ⟨gz, oz + k3 * 6 + 2, none⟩ = some (.int .i64 z.s.mark) ∧ w'.cell? ⟨gz, oz + k3 * 6 + 3, none⟩ = some (.slice z.am z.s.marks.length z.cm) ∧ w'.cell? ⟨gz, oz + k3 * 6 + 4, none⟩ = some (.slice z.ap z.s.panes.length z.cp) ∧ w'.cell? ⟨gz, oz + k3 * 6 + 5, none⟩ = some (.slice z.ac z.s.outs.length z.cc) ∧ w'.cell? ⟨lb, lo + i * 3 + 2, none⟩ = some (.slice (some ⟨gz, oz, none⟩) o.l.length o.c)) w15) := ⟨(Below.cell b10 (p := ⟨g9, o9 + k3 * 6, none⟩) (World.block_lt_of_cell? wr ⟨g9, o9 + k3 * 6, none⟩ y0)).trans y0, (Below.cell b10 (p := ⟨g9, o9 + k3 * 6 + 1, none⟩) (World.block_lt_of_cell? wr ⟨g9, o9 + k3 * 6 + 1, none⟩ y1)).trans y1, (Below.cell b10 (p := ⟨g9, o9 + k3 * 6 + 2, none⟩) (World.block_lt_of_cell? wr ⟨g9, o9 + k3 * 6 + 2, none⟩ y2)).trans y2, (Below.cell b10 (p := ⟨g9, o9 + k3 * 6 + 3, none⟩) (World.block_lt_of_cell? wr ⟨g9, o9 + k3 * 6 + 3, none⟩ y3)).trans y3, (Below.cell b10 (p := ⟨g9, o9 + k3 * 6 + 4, none⟩) (World.block_lt_of_cell? wr ⟨g9, o9 + k3 * 6 + 4, none⟩ y4)).trans y4, (Below.cell b10 (p := ⟨g9, o9 + k3 * 6 + 5, none⟩) (World.block_lt_of_cell? wr ⟨g9, o9 + k3 * 6 + 5, none⟩ y5)).trans y5, (Below.cell b10 (p := ⟨gz, oz + k3 * 6, none⟩) (World.block_lt_of_cell? wr ⟨gz, oz + k3 * 6, none⟩ z0)).trans z0, (Below.cell b10 (p := ⟨gz, oz + k3 * 6 + 1, none⟩) (World.block_lt_of_cell? wr ⟨gz, oz + k3 * 6 + 1, none⟩ z1)).trans z1, (Below.cell b10 (p := ⟨gz, oz + k3 * 6 + 2, none⟩) (World.block_lt_of_cell? wr ⟨gz, oz + k3 * 6 + 2, none⟩ z2)).trans z2, (Below.cell b10 (p := ⟨gz, oz + k3 * 6 + 3, none⟩) (World.block_lt_of_cell? wr ⟨gz, oz + k3 * 6 + 3, none⟩ z3)).trans z3, (Below.cell b10 (p := ⟨gz, oz + k3 * 6 + 4, none⟩) (World.block_lt_of_cell? wr ⟨gz, oz + k3 * 6 + 4, none⟩ z4)).trans z4, (Below.cell b10 (p := ⟨gz, oz + k3 * 6 + 5, none⟩) (World.block_lt_of_cell? wr ⟨gz, oz + k3 * 6 + 5, none⟩ z5)).trans z5, (Below.cell b10 (p := ⟨lb, lo + i * 3 + 2, none⟩) (World.block_lt_of_cell? wr ⟨lb, lo + i * 3 + 2, none⟩ q2)).trans q2⟩; clear b10))
      go_wp2_with fail
      go_roundw
      case rel => exact ⟨k3 + 1, by omega, by go_num, HI3.out.trans (B10.out.mono HI3.out.size)⟩
      case measure => simp [intOf]; omega
end Go.Proofs.YtbfhcbihgleddaaGreatDoor
