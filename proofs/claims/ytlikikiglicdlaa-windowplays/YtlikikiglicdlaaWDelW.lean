/-
  slices.DeleteFunc over panes, walked.
-/
import Derived.Test.YtlikikiglicdlaaWDelP
namespace Go.Proofs.Ytlikikiglicdlaa
open Go.RowKit

theorem box_some4 {t : TypeId} {w : World} {g i cap : Nat} {cur : Array Value} (h : BoxT t w g cur) (hs : cur.size = cap * 4) (hi : i < cap) : ∃ u0 u1 u2 u3, w.cell? ⟨g, i * 4, none⟩ = some u0 ∧ w.cell? ⟨g, i * 4 + 1, none⟩ = some u1 ∧ w.cell? ⟨g, i * 4 + 2, none⟩ = some u2 ∧ w.cell? ⟨g, i * 4 + 3, none⟩ = some u3 := by
  refine ⟨cur[i * 4]'(by omega), cur[i * 4 + 1]'(by omega), cur[i * 4 + 2]'(by omega), cur[i * 4 + 3]'(by omega), ?_, ?_, ?_, ?_⟩ <;> (rw [h.cellAt]; exact Array.getElem?_eq_getElem _)
set_option maxRecDepth 100000 in
theorem index_nil (w : World) (fv : Value) : Calls Try.prog 61 #[.slice none 0 0, fv] w fun e w' => e = .returned (.int .i64 (-1)) ∧ w' = w := by
  go_enter Try.func61, Try.ntmps61
  go_wp2_with fail
  go_loopw [8] (fun iv wr => iv = .int .i64 0 ∧ wr = w) (fun _ _ => 0)
  case atStart => exact ⟨rfl, rfl⟩
  case round =>
    obtain ⟨rfl, rfl⟩ := hrel
    go_wp2
    go_ret
    exact ⟨rfl, rfl⟩
set_option maxHeartbeats 4000000 in
set_option maxRecDepth 100000 in
theorem delete_any {w : World} {K base : Nat} {wh : Pn} {v : Value} {l : List Pn} (hK : BoxT 46 w K wh.cs.toArray) (ho : OwnL 46 4 Pn.cs base w v l) (hKv : v.ownBlock ≠ some K) (hn : l.length ≤ 1000000) :
    Calls Try.prog 43 #[v, .func (.func 44) #[] #[.pointer (some ⟨K, 0, none⟩)]] w fun e w' => ∃ v', e = .returned v' ∧ OwnL 46 4 Pn.cs base w' v' (keepO wh l) ∧ w.grownBy w' v.ownBlock ∧ (∀ g, v'.ownBlock = some g → v.ownBlock = some g) := by
  have hix := index_any hK (ho.seg Pn.cs_len (by omega)) hn
  rcases ho.2 with ⟨rfl, h0⟩ | ⟨g, cap, cur, rfl, hbg, hgb, hcl, hcm, hcs, hct⟩
  · have h0 : l = [] := List.length_eq_zero_iff.1 h0
    subst h0
    clear hK hn hix
    go_enter Try.func43, Try.ntmps43
    go_wp2_with fail
    go_at_call 61
    refine (index_nil w _).mono ?_
    rintro e w1 ⟨rfl, rfl⟩
    go_wp2
    go_ret
    exact ⟨_, rfl, ho, grownBy_refl _ _, fun g e => e⟩
  · have hbx : BoxT 46 w g cur := hgb
    have hKg : K ≠ g := fun e => hKv (by rw [e]; rfl)
    have hcell : ∀ (a : Nat) (x : Pn), l[a]? = some x → ∀ (q : Nat) (u : Value), x.cs[q]? = some u → cur[a * 4 + q]? = some u := fun a x hx q u hu => by
      have h2 := flat_get Pn.cs_len l a q x u hx hu
      rw [← hct, List.getElem?_take] at h2
      split at h2
      · simpa using h2
      · cases h2
    have HO := hide ho
    have HK := hide hK
    have HB := hide hbx
    have HCE := hide hcell
    have HCS := hide hcs
    have HKG := hide hKg
    clear hgb hct hbx hcell ho hcs hK hKv hKg
    generalize hlm : l.length = m at *
    have HL := hide hlm
    clear hlm
    go_enter Try.func43, Try.ntmps43
    go_wp2_with fail
    go_at_call 61
    refine hix.mono ?_
    rintro e w1 ⟨⟨r, rfl, hr⟩, b1⟩
    clear hix
    rcases hr with ⟨rfl, hall⟩ | ⟨k, rfl, hkl, hbef, hat⟩
    · have hwa := keep_all hall
      clear hall
      have HWA := hide hwa
      have HN : Hid (OwnL 46 4 Pn.cs base w1 (.slice (some ⟨g, 0, none⟩) m cap) l) := OwnL.below HO.out b1
      clear hwa
      go_wp2
      go_ret
      exact ⟨_, rfl, by rw [HWA.out]; exact HN.out, ⟨b1.os, b1.tape, b1.output, b1.size, fun i hi _ => b1.block i hi⟩, fun g e => e⟩
    · obtain ⟨s0, hs0⟩ : ∃ s, l[k]? = some s := ⟨_, List.getElem?_eq_getElem (by rw [HL.out]; exact hkl)⟩
      have hw0 := hat s0 hs0
      have hwk : keepO wh (l.take k) = l.take k := keep_all (fun s hs => by
        obtain ⟨a, ha⟩ := List.getElem?_of_mem hs
        rw [List.getElem?_take] at ha
        split at ha
        · rename_i hak; exact hbef a s hak ha
        · cases ha)
      have hwk1 : keepO wh (l.take (k + 1)) = l.take k := by rw [keep_take hs0, if_pos hw0, hwk]
      have hlk1 : (keepO wh (l.take (k + 1))).length = k := by rw [hwk1, List.length_take, HL.out]; omega
      have H0 : Hid (DI w w1 wh K g cap l (k + 1)) := by
        refine ⟨BoxT.below (t := 46) HK.out b1, ⟨b1.os, b1.tape, b1.output, b1.size, fun i hi _ => b1.block i hi⟩, cur, BoxT.below (t := 46) HB.out b1, HCS.out, fun a s hs q u hu => ?_, fun a s _ hs => HCE.out a s hs⟩
        rw [hwk1, List.getElem?_take] at hs
        split at hs
        · exact HCE.out a s hs q u hu
        · cases hs
      have HL1 := hide hlk1
      clear hat hbef hwk hwk1 hlk1 hs0 hw0 b1 HB HCE HK
      have hkm : ((k : Int) == -1) = false := by simp
      have hrun := runClo
      go_wp2_with fail
      go_loopw [5, 6, 7] (fun iv jv _ wr => ∃ j i : Nat, k < j ∧ j ≤ m ∧ i < j ∧ iv = .int .i64 i ∧ jv = .int .i64 j ∧ Hid ((keepO wh (l.take j)).length = i) ∧ Hid (DI w wr wh K g cap l j)) (fun _ jv _ _ => m - (intOf jv).toNat)
      case atStart => exact ⟨k + 1, k, by omega, by omega, by omega, rfl, by go_num, HL1.out, H0.out⟩
      case round =>
        clear H0
        obtain ⟨j, i, hkj, hjm, hwl, rfl, rfl, HIL, HD⟩ := hrel
        obtain ⟨cur2, q1, q2, q3, q4⟩ := HD.out.box
        by_cases hlt : j < m
        · obtain ⟨s, hs⟩ : ∃ s, l[j]? = some s := ⟨_, List.getElem?_eq_getElem (by rw [HL.out]; exact hlt)⟩
          have e0 : wr.cell? ⟨g, 0 + j * 4, none⟩ = some (.int .i64 s.k) := by rw [Nat.zero_add]; exact (q1.cellAt _).trans (q4 j s (Nat.le_refl _) hs 0 _ rfl)
          have e1 : wr.cell? ⟨g, j * 4 + 1, none⟩ = some (.int .i64 s.f) := (q1.cellAt _).trans (q4 j s (Nat.le_refl _) hs 1 _ rfl)
          have e2 : wr.cell? ⟨g, j * 4 + 2, none⟩ = some (.int .i64 s.t) := (q1.cellAt _).trans (q4 j s (Nat.le_refl _) hs 2 _ rfl)
          have e3 : wr.cell? ⟨g, j * 4 + 3, none⟩ = some (.int .i64 s.a) := (q1.cellAt _).trans (q4 j s (Nat.le_refl _) hs 3 _ rfl)
          rw [Nat.zero_add] at e0
          have hbx := below_box wr (.cells #[.int .i64 s.k, .int .i64 s.f, .int .i64 s.t, .int .i64 s.a] 46)
          have HKA := hide (clo_any (BoxT.below (t := 46) HD.out.hk hbx) s)
          have HBX := hide hbx
          have HQ1 := hide q1
          have HQ2 := hide q2
          have hcm2 : m ≤ cap := hcl
          have HS2 := hide hs
          have HWT := hide (keep_take (wh := wh) hs)
          have HNB := hide (BoxT.new 46 wr #[.int .i64 s.k, .int .i64 s.f, .int .i64 s.t, .int .i64 s.a])
          clear q1 q2 q3 q4 hs hbx
          generalize hR : ovb wh s = R at HKA HWT
          have HR := hide hR
          clear hR
          obtain ⟨sk, sf, st, sa⟩ := s
          unfold Pn.val at HKA
          simp only at e0 e1 e2 e3 HKA HBX HNB
          cases R with
          | false =>
            have HM := hide (fun w2 (b2 : Below wr.heap.size wr w2) => HD.out.move b2 HKG.out HS2.out HR.out (by rw [HIL.out]; exact hwl))
            rw [HIL.out] at HM
            have hlen : (keepO wh (l.take (j + 1))).length = i + 1 := by rw [HWT.out]; simp [HIL.out]
            have HLE := hide hlen
            clear hlen HD
            go_wp2_with (refine HKA.out.mono ?_; rintro e w2 ⟨rfl, b2⟩; have B2 := hide (HBX.out.trans (b2.mono HBX.out.size)); obtain ⟨n0, n1, n2, n3⟩ := (BoxT.below (t := 46) HNB.out b2).cells4; have qb := BoxT.below (t := 46) HQ1.out B2.out; have qf := fun j => qb.free j; obtain ⟨z0, z1, z2, z3, y0, y1, y2, y3⟩ := box_some4 qb HQ2.out (show i < cap by omega); have QB := hide qb; clear b2 qb)
            go_roundw
            case rel => exact ⟨j + 1, i + 1, by omega, by omega, by omega, by go_num, by go_num, HLE.out, HM.out w2 B2.out⟩
            case measure => simp [intOf]; omega
          | true =>
            have HM := hide (fun w2 (b2 : Below wr.heap.size wr w2) => HD.out.skip b2 HS2.out HR.out)
            have hlen : (keepO wh (l.take (j + 1))).length = i := by rw [HWT.out]; simp [HIL.out]
            have HLE := hide hlen
            clear hlen HD
            go_wp2_with (refine HKA.out.mono ?_; rintro e w2 ⟨rfl, b2⟩; have B2 := hide (HBX.out.trans (b2.mono HBX.out.size)); clear b2)
            go_roundw
            case rel => exact ⟨j + 1, i, by omega, by omega, by omega, rfl, by go_num, HLE.out, HM.out w2 B2.out⟩
            case measure => simp [intOf]; omega
        · obtain rfl : j = m := by omega
          have HWS : Hid (keepO wh (l.take j) = keepO wh l) := by show _ = _; rw [List.take_of_length_le (by rw [HL.out]; exact Nat.le_refl _)]
          have hclr : ∀ ty, (Builtin.clear_ #[35] ty #[.slice (some ⟨g, i * 4, none⟩) (j - i) (cap - i)]).run Try.prog wr = .ok (.tuple #[]) (wr.setCells g (i * 4) (List.replicate ((j - i) * 4) (.int .i64 0))) :=
            fun ty => run_clear_pn wr ty g (i * 4) (j - i) (cap - i) (by omega) (fun a ha => by
              rw [q1.cellAt, Array.getElem?_eq_getElem (show i * 4 + a < cur2.size by omega)]; rfl) (fun a _ => q1.free _)
          have HBX := hide (q1.setCells (j := i * 4) (List.replicate ((j - i) * 4) (.int .i64 0)))
          have HGR := hide (grownBy_trans HD.out.gr (grown_setCells g (List.replicate ((j - i) * 4) (.int .i64 0)) wr (i * 4)))
          have HQ := hide (And.intro q2 q3)
          clear q1 q2 q3 q4
          go_wp2
          go_ret
          refine ⟨_, rfl, ?_, HGR.out, fun g e => e⟩
          have hil : (keepO wh l).length = i := by rw [← HWS.out]; exact HIL.out
          have hsz : (setL cur2 (i * 4) (List.replicate ((j - i) * 4) (.int .i64 0))).size = cap * 4 := by rw [setL_size]; exact HQ.out.1
          show World.ownsRow _ base 46 4 (.slice (some ⟨g, 0, none⟩) i cap) (keepO wh l).length ((keepO wh l).flatMap Pn.cs)
          refine ⟨by rw [flat_size Pn.cs_len], .inr ⟨g, cap, _, by rw [hil], hbg, HBX.out, by omega, hcm, by rw [hsz], ?_⟩⟩
          apply List.ext_getElem?
          intro a
          rw [List.getElem?_take]
          by_cases ha : a < i * 4
          · rw [if_pos (by rw [hil]; exact ha), Array.getElem?_toList, setL_out _ _ _ _ (.inl ha)]
            have hlf : a < ((keepO wh l).flatMap Pn.cs).length := by rw [flat_size Pn.cs_len, hil]; exact ha
            obtain ⟨x, hx⟩ := get_of_lt (show a / 4 < (keepO wh l).length by rw [hil]; omega)
            have hm4 : a % 4 < x.cs.length := by rw [Pn.cs_len]; omega
            obtain ⟨u, hu⟩ := get_of_lt hm4
            have h1 := flat_get Pn.cs_len (keepO wh l) (a / 4) (a % 4) x u hx hu
            have h2 := HQ.out.2 (a / 4) x (by rw [HWS.out]; exact hx) (a % 4) u hu
            rw [show a / 4 * 4 + a % 4 = a by omega] at h1 h2
            rw [h1, h2]
          · rw [if_neg (by rw [hil]; exact ha), List.getElem?_eq_none (by rw [flat_size Pn.cs_len, hil]; omega)]
end Go.Proofs.Ytlikikiglicdlaa
