/-
  Walks over package disk: Crash, the walk.
-/
import Derived.Test.YtnokibjhkdaamaaDCrash
namespace Go.Proofs.Ytnokibjhkdaamaa
open Go.RowKit Go.Maps

/-- The disk in the midst of a crash: i files are gone over. -/
structure MidC (w0 : World) (k b : Nat) (p : Pd) (keep : List Int) (vn : Value) (i : Nat) (w : World) : Prop where
  at_ : DiskAt w k b p.l.length ⟨mkD (half keep p.l i), fSum ((crashL keep p.l).take i), p.room, p.left⟩
  turned : Turned k b w0 w
  names : NSeg w.heap.size w vn (p.l.map Fi.n)

set_option maxHeartbeats 4000000 in
set_option maxRecDepth 100000 in
theorem Crash_p {w : World} {k b n : Nat} {p : Pd} (h : PdAt w k b n p) (vk : Value) (kl : List Int) (hk : Hid (∀ w', Turned k b w w' → ISeg w' vk kl)) :
    Calls Try.prog 14 #[.pointer (some ⟨k, 0, none⟩), vk] w fun e w' => e = .returned (.tuple #[]) ∧ PdAt w' k b n (pCrash p kl) ∧ Turned k b w w' := by
  have hlen : p.l.length ≤ 1000000 := Nat.le_trans h.ok.len h.ok.many
  have hkl := h.at_.box.lt
  have hbl := h.at_.map.lt
  obtain ⟨c0, c1, c2, c3⟩ := h.at_.box.cells4
  have fr := h.at_.box.free
  have h1 := h.at_.used' 0 (wf_in (by omega))
  have ht1 := Turned.set k b w 1 (.int .i64 0)
  have hn := names_any h1 (l := p.l) rfl h.ok.rise hlen
  obtain ⟨ka, kc, rfl, hk2, _⟩ := hk.out w (Turned.refl _ _ _)
  have H1 : Hid _ := And.intro h1 ht1
  have HH : Hid (PdAt w k b n p) := h
  clear h1 ht1 h
  go_enter Try.func14, Try.ntmps14
  go_wp2_with fail
  refine hn.mono ?_
  rintro e w1 ⟨vn, rfl, hns, hnew, hb1⟩
  obtain ⟨h1, ht1⟩ := H1.out
  have HM : Hid (MidC w k b p kl vn 0 w1) := by
    refine ⟨?_, ht1.trans (Turned.below hb1), hns⟩
    rw [half_zero]
    have := h1.below hb1
    have hm := tight this.map
    have hsz : Maps.size (mkD p.l) = p.l.length := mkD_size p.l
    rw [← hsz]
    exact ⟨this.box, hm, this.used, this.room, this.left⟩
  have HNW : Hid (NewSl w.heap.size vn) := by
    have := hnew
    rw [World.size_setCell] at this
    exact this
  obtain ⟨na, nc, rfl, hn2, -⟩ := hns
  rw [List.length_map] at *
  clear hnew hb1 h1 ht1 H1 hn c0 c1 c2 c3 fr
  go_wp2_with fail
  go_loopw [14] (fun iv wr => ∃ i : Nat, i ≤ p.l.length ∧ iv = .int .i64 i ∧ Hid (MidC w k b p kl (.slice na p.l.length nc) i wr)) (fun iv _ => p.l.length - (intOf iv).toNat)
  case atStart => exact ⟨0, Nat.zero_le _, rfl, HM⟩
  case round =>
    obtain ⟨i, hi, rfl, HI⟩ := hrel
    by_cases hlt : i < p.l.length
    · obtain ⟨f, hf⟩ : ∃ f, p.l[i]? = some f := ⟨_, List.getElem?_eq_getElem hlt⟩
      have hfm : f ∈ p.l := List.mem_of_getElem? hf
      have hfs := HH.out.ok.sync f hfm
      have hfx := HH.out.ok.size f hfm
      have hfn : f.n.length ≤ 32 := by have := HH.out.ok.name f hfm; unfold okName at this; simp at this; omega
      obtain ⟨hD, hT, hN⟩ := HI.out
      have hsum := sum_next kl hf hfs
      have hput := half_put kl HH.out.ok.rise hf
      have hused := hD.used
      dsimp only at hused
      have hleft := f.left_le (kl.getD i 0) hfs
      have hsumle : fSum ((crashL kl p.l).take i) ≤ 1048576000000 := by
        have e1 : fSum ((crashL kl p.l).take i) ≤ ((crashL kl p.l).take i).length * 1048576 := fSum_le fun g hg => (HH.out.ok.crash kl).size g (List.mem_of_mem_take hg)
        have e2 : ((crashL kl p.l).take i).length ≤ 1000000 := by rw [List.length_take, crashL_length]; omega
        have : ((crashL kl p.l).take i).length * 1048576 ≤ 1000000 * 1048576 := Nat.mul_le_mul_right _ e2
        omega
      obtain ⟨na', nc', en, _, hcells⟩ := hN
      simp only [Value.slice.injEq] at en
      obtain ⟨rfl, -, rfl⟩ := en
      rcases hcells with h0 | ⟨g, off, rfl, hg, hcells⟩
      · rw [List.map_eq_nil_iff] at h0; rw [h0] at hlt; simp at hlt
      have hnm := hcells i f.n (by rw [List.getElem?_map, hf]; rfl) 0 _ rfl
      rw [Nat.mul_one, Nat.add_zero] at hnm
      have hsz : (⟨f.n.toArray⟩ : ByteArray).size ≤ maxLen := by
        show f.n.toArray.size ≤ maxLen
        unfold maxLen; simp; omega
      have hat : (mkD (half kl p.l i)).atKey (key ⟨f.n.toArray⟩) nofile = fd (strOf f.x) f.s := by
        rw [key_nm, nm_ba, mkD_atKey]
        have : (half kl p.l i)[i]? = some f := by rw [half_get, if_neg (Nat.lt_irrefl i), hf]
        rw [get_at (half_rise kl HH.out.ok.rise i) this]
      have hlk : (Instr.lookup 62 (.map (some b)) (.string ⟨f.n.toArray⟩) false).run Try.prog wr = .ok (.agg #[.string (strOf f.x), .int .i64 f.s]) wr := look hD hsz hat 0
      have htn : ∀ W, Calls Try.prog 42 #[.agg #[.string (strOf f.x), .int .i64 f.s], .int .i64 (kl.getD i 0)] W fun e w' => e = .returned (.agg #[.string (strOf (f.x.take (f.left (kl.getD i 0)))), .int .i64 (f.left (kl.getD i 0) : Nat)]) ∧ Below W.heap.size W w' := by
        intro W
        have := torn_any clone_ok W (strOf f.x) f.s (kl.getD i 0) (by rw [strOf_size]; exact hfx) (by omega) (by rw [strOf_size]; omega)
        rw [tornN_left f _ hfs, Int.toNat_natCast, strOf_take] at this
        exact this
      have HTN : Hid _ := htn
      clear htn
      obtain ⟨c0, c1, c2, c3⟩ := hD.box.cells4
      dsimp only at c0 c1 c2 c3
      have HF : Hid (p.l[i]? = some f) := hf
      have HS : Hid _ := And.intro hsum hput
      have HD : Hid _ := And.intro hD hT
      clear hD hT hsum hput hcells hat hf
      have hput2 : fPut ⟨f.n, f.x.take (f.left (kl.getD i 0)), f.left (kl.getD i 0)⟩ (half kl p.l i) = half kl p.l (i + 1) := HS.out.2
      have hbyt := (HH.out.ok.byts f hfm).take (f.left (kl.getD i 0))
      have hsum2 := HS.out.1
      have hlx : (f.x.take (f.left (kl.getD i 0))).length = f.left (kl.getD i 0) := by rw [List.length_take]; omega
      generalize f.left (kl.getD i 0) = m at *
      have HP2 : Hid _ := hput2
      have HSM : Hid _ := hsum2
      have HBY : Hid _ := hbyt
      have HLX : Hid _ := hlx
      clear HS hput2 hsum2 hbyt hlx
      generalize fSum ((crashL kl p.l).take i) = u at *
      generalize hu' : fSum ((crashL kl p.l).take (i + 1)) = u' at *
      have HU : Hid _ := hu'
      clear hu'
      by_cases hik : i < kl.length
      case' pos =>
        have hks := hk.out wr HD.out.2
        obtain ⟨ka', kc', ek, _, hkc⟩ := hks
        simp only [Value.slice.injEq] at ek
        obtain ⟨rfl, -, rfl⟩ := ek
        rcases hkc with h0 | ⟨gk, offk, rfl, hgk, hkc⟩
        · rw [h0] at hik; simp at hik
        obtain ⟨x, hx⟩ : ∃ x, kl[i]? = some x := ⟨_, List.getElem?_eq_getElem hik⟩
        have hkx := hkc i x hx 0 _ rfl
        rw [Nat.mul_one, Nat.add_zero] at hkx
        have hgx : kl.getD i 0 = x := by rw [List.getD_eq_getElem?_getD, hx]; rfl
        rw [hgx] at HTN
        clear hkc hx
        go_wp2_with fail
      case' neg =>
        have hgx : kl.getD i 0 = 0 := by rw [List.getD_eq_getElem?_getD, List.getElem?_eq_none (by omega)]; rfl
        rw [hgx] at HTN
        go_wp2_with fail
      all_goals
        refine (HTN.out _).mono ?_
        rintro e w2 ⟨rfl, hb2⟩
        have HB2 : Hid _ := hb2
        clear hb2 hlk hnm HTN c0 c1 c2 c3
        go_wp2_with fail
        have hb3 := HB2.out.trans (((Below.refl w2.heap.size w2).alloc (Nat.le_refl _) (.cells #[.string (strOf (f.x.take m)), .int .i64 (m : Nat)] 67)).mono HB2.out.size)
        have hbP : BoxT 67 _ _ #[.string (strOf (f.x.take m)), .int .i64 (m : Nat)] := BoxT.new 67 w2 #[.string (strOf (f.x.take m)), .int .i64 (m : Nat)]
        generalize w2.alloc (.cells #[.string (strOf (f.x.take m)), .int .i64 (m : Nat)] 67) = W at *
        have hq : w2.heap.size = w2.heap.size := rfl
        generalize w2.heap.size = q at *
        obtain ⟨hD, hT⟩ := HD.out
        have h1 := hD.below hb3
        have hT1 : Turned k b wr W := Turned.below hb3
        have hmd : W.drew.ownsMap Try.prog 9 fileR b p.l.length (mkD (half kl p.l i)) := h1.map
        obtain ⟨w3, hst, hown3, hturn⟩ := hmd.store (string_keyed Try.underlying9) Try.underlying62 (by unfold maxLen; omega) (keyOf_name hsz) (fileR_mk (s := strOf (f.x.take m)) (n := (m : Nat)) (by rw [strOf_size, HLX.out]; unfold maxLen; omega) (wf_in (by omega)))
        have hqk : q ≠ k := by
          rintro rfl
          have e1 := hbP
          have e2 := h1.box
          unfold BoxT at e1 e2
          rw [e1] at e2
          simp at e2
        have hqb : q ≠ b := hbP.notMap h1.map
        have hbx3 := box_turned (h1.below ((Below.refl _ _).drew)) hturn
        have hbP3 : BoxT 67 w3 q #[.string (strOf (f.x.take m)), .int .i64 (m : Nat)] := (hbP.drew).grown hturn.grown hqb
        dsimp only at hbx3
        have hDput : (mkD (half kl p.l i)).put (key ⟨f.n.toArray⟩) (fd (strOf (f.x.take m)) (m : Nat)) = mkD (half kl p.l (i + 1)) := by
          rw [← HP2.out, key_nm, nm_ba]
          exact mkD_put ⟨f.n, f.x.take m, m⟩ (half kl p.l i)
        rw [hDput] at hown3
        have hsz3 : Maps.size (mkD (half kl p.l (i + 1))) = p.l.length := by
          rw [mkD_size]
          have := congrArg List.length (half_names kl p.l (i + 1))
          simpa using this
        have hown3' := tight hown3
        rw [hsz3] at hown3'
        have h3 : DiskAt w3 k b p.l.length ⟨mkD (half kl p.l (i + 1)), (u : Nat), p.room, p.left⟩ := ⟨hbx3, hown3', h1.used, h1.room, h1.left⟩
        have hT3 : Turned k b wr w3 := hT1.trans ((Turned.below ((Below.refl _ _).drew)).trans (Turned.map hturn))
        have h4 := (h3.used' (u' : Nat) (wf_in (by have := HSM.out; omega))).below ((Below.refl _ _).drew)
        have hT4 : Turned k b wr (w3.setCell ⟨k, 1, none⟩ (.int .i64 (u' : Nat))).drew := (hT3.trans (Turned.set k b w3 1 _)).trans (Turned.below ((Below.refl _ _).drew))
        have H4 : Hid _ := And.intro h4 hT4
        have hw1 : wrap64 ((u : Int) + (m : Int)) = (u' : Nat) := by have := HSM.out; unfold wrap64; omega
        have hw2 : IntKind.i64.wrap ((u : Int) + (m : Int)) = (u' : Nat) := by have := HSM.out; rw [IntKind.wrap_i64]; omega
        have hss : (strOf (f.x.take m)).size = m := by rw [strOf_size]; exact HLX.out
        obtain ⟨c0, c1, c2, c3⟩ := h1.box.cells4
        obtain ⟨p0, p1⟩ := hbP.cells2
        obtain ⟨g0, g1, g2, g3⟩ := h3.box.cells4
        obtain ⟨q0, q1⟩ := hbP3.cells2
        have fr3 := h3.box.free
        dsimp only at c0 c1 c2 c3 g0 g1 g2 g3
        clear hb3 hbP h1 hmd hown3 hown3' hturn hbx3 hbP3 h3 hT3 h4 hT4 hD hT hT1 hDput hsz3
        go_region
        all_goals
          go_wp2_with fail
          go_region
          all_goals
            go_wp2
            go_roundw
            case rel =>
              obtain ⟨h4, hT4⟩ := H4.out
              exact ⟨i + 1, by omega, by go_num, ⟨by rw [HU.out]; exact h4, HD.out.2.trans hT4, LSeg.turned HI.out.names HNW.out hkl hbl hT4⟩⟩
            case measure => simp [intOf]; omega
    · obtain rfl : i = p.l.length := by omega
      obtain ⟨hD, hT, hN⟩ := HI.out
      rw [half_all] at hD
      have hcl : (crashL kl p.l).take p.l.length = crashL kl p.l := by rw [← crashL_length kl p.l, List.take_length]
      rw [hcl] at hD
      obtain ⟨c0, c1, c2, c3⟩ := hD.box.cells4
      have fr := hD.box.free
      have h2 := hD.left' (-1) (wf_in (by omega))
      have HP : Hid _ := And.intro h2 (hT.trans (Turned.set k b wr 3 (.int .i64 (-1))))
      clear h2 hT hN hD HI HM
      go_wp2
      go_end0
      obtain ⟨h2, h3⟩ := HP.out
      exact ⟨rfl, ⟨h2.mono HH.out.ok.len, HH.out.ok.crash kl⟩, h3⟩
end Go.Proofs.Ytnokibjhkdaamaa
