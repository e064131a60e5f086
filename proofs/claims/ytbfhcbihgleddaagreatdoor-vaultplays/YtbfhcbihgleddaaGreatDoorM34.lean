/-
  Texts of the vault, in build order: VKnown.
-/
import Derived.Test.YtbfhcbihgleddaaGreatDoorM33
/-
  The law's known over the vault, walked.
-/
namespace Go.Proofs.YtbfhcbihgleddaaGreatDoor
open Go.RowKit

def ksv : SnV := ⟨ks, none, 0, none, 0, none, 0⟩
def kcs : Array Value := #[.int .i64 1, .int .i64 2, .int .i64 0, .slice none 0 0, .slice none 0 0, .slice none 0 0]
theorem ksIn {w : World} {g : Nat} (h : BoxT 27 w g kcs) : SnsIn w.heap.size w (.slice (some ⟨g, 0, none⟩) 1 1) [ksv] := by
  refine ⟨⟨_, _, rfl, by simp, .inr ⟨g, 0, rfl, h.lt, fun i x hx j u hu => ?_⟩⟩, fun x hx => ?_, fun x hx o ho => ?_⟩
  · have hi : i = 0 := by have := (List.getElem?_eq_some_iff.1 hx).1; simp at this; omega
    subst hi
    obtain rfl : ksv = x := by simpa using hx
    rw [h.cellAt, Nat.zero_mul, Nat.add_zero, Nat.zero_add]
    match j, hu with
    | 0, hu | 1, hu | 2, hu | 3, hu | 4, hu | 5, hu => simpa [SnV.cs, ksv, ks, kcs] using hu
  · rcases List.mem_singleton.1 hx with rfl
    exact ⟨⟨none, 0, rfl, by simp [ksv, ks], .inl rfl⟩, ⟨none, 0, rfl, by simp [ksv, ks], .inl rfl⟩, ⟨none, 0, rfl, by simp [ksv, ks], .inl rfl⟩⟩
  · rcases List.mem_singleton.1 hx with rfl
    simp [ksv, ks] at ho
theorem hx_of {th : List SpV} {l : List Sp} (h : th.map SpV.s = l) (hl : ∀ y ∈ l, y.n < 18446744073709551616 ∧ y.parts.length ≤ 900 ∧ ∀ s ∈ y.parts, s.size ≤ 100) : ∀ x ∈ th, x.n < 18446744073709551616 ∧ x.parts.length ≤ 900 ∧ ∀ s ∈ x.parts, s.size ≤ 100 :=
  fun x hx => hl x.s (by rw [← h]; exact List.mem_map.2 ⟨x, hx, rfl⟩)
theorem ksn_fine (n ep : Nat) (c : UInt8) (hn : n < 18446744073709551616) : (ksn n ep c).n < 18446744073709551616 ∧ (ksn n ep c).parts.length ≤ 900 ∧ ∀ s ∈ (ksn n ep c).parts, s.size ≤ 100 :=
  ⟨hn, by simp [ksn], fun s hs => by rcases List.mem_singleton.1 hs with rfl; show 16 ≤ 100; decide⟩
theorem len_of {th : List SpV} {l : List Sp} (h : th.map SpV.s = l) : th.length = l.length := by rw [← h, List.length_map]
/-- In the midst of known. -/
structure KI (w0 w : World) (B k V b nf g : Nat) (p : Pd) (sth : List Sp) : Prop where
  va : ∃ vt vw th, th.map SpV.s = sth ∧ VAt w0 w V k b nf p 2 vt vw th []
  box : BoxT 52 w B (wld k (.pointer (some ⟨V, 0, none⟩)) 2 (.slice none 0 0) (.slice none 0 0) (.int .u64 0) (.bool false) (.bool false) (.bool true))
  sn : BoxT 27 w g kcs
  at_ : w0.heap.size ≤ B
theorem KI.put {w0 w : World} {B k V b nf g : Nat} {p : Pd} {sth : List Sp} (H : KI w0 w B k V b nf g p sth) (hg : Glob w0) (n ep : Nat) (hn : n < 18446744073709551616) (he : ep < 18446744073709551616) (hnf : nf + 3000 ≤ 1000000)
    (hlen : sth.length ≤ 900) (hfine : ∀ y ∈ sth, y.n < 18446744073709551616 ∧ y.parts.length ≤ 900 ∧ ∀ s ∈ y.parts, s.size ≤ 100) {p' : Pd} {er : Int} {sth' : List Sp} (hR : pPut 2 p sth [] n ep ([kc], 0) = (p', er, sth', [])) :
    Calls Tryz.prog 13 #[.pointer (some ⟨V, 0, none⟩), .int .u64 n, .int .u64 ep, .slice (some ⟨g, 0, none⟩) 1 1] w fun e w' => e = .returned (.int .i64 er) ∧ KI w0 w' B k V b (nf + 3000) g p' sth' := by
  obtain ⟨vt, vw, th, hth, va⟩ := H.va
  refine (Put_any va hg n ep hn he _ [ksv] (ksIn H.sn) (by simp) (by rw [show ([ksv].map SnV.s) = [ks] from rfl, kpk]; simp) (by decide) (by rw [len_of hth]; exact hlen) (hx_of hth hfine) (by simp) (fun s hs => by cases hs) hnf p' er sth' [] (by rw [hth, show ([ksv].map SnV.s) = [ks] from rfl, kpk]; exact hR)).mono ?_
  rintro e w' ⟨rfl, vt', vw', th', h1, h2, h3⟩
  exact ⟨rfl, ⟨vt', vw', th', h1, h2⟩, H.box.pt va h3 (by decide) (by decide) (by decide) (by decide), H.sn.pt va h3 (by decide) (by decide) (by decide) (by decide), H.at_⟩
theorem KI.below {w0 w w' : World} {B k V b nf g : Nat} {p : Pd} {sth : List Sp} (H : KI w0 w B k V b nf g p sth) (hb : Below w.heap.size w w') : KI w0 w' B k V b nf g p sth := by
  obtain ⟨vt, vw, th, hth, va⟩ := H.va
  exact ⟨⟨vt, vw, th, hth, va.below hb⟩, H.box.belowT hb, H.sn.belowT hb, H.at_⟩
theorem KI.cell {w0 w : World} {B k V b nf g : Nat} {p : Pd} {sth : List Sp} (H : KI w0 w B k V b nf g p sth) : w.cell? ⟨B, 1, none⟩ = some (.pointer (some ⟨V, 0, none⟩)) := (wld_cells H.box).2.1
theorem KI.since {w0 w : World} {B k V b nf g : Nat} {p : Pd} {sth : List Sp} (H : KI w0 w B k V b nf g p sth) : Below w0.heap.size w0 w := by
  obtain ⟨vt, vw, th, hth, va⟩ := H.va
  exact va.st.since
theorem fine1 : ∀ y ∈ [ksn 1 1 49], y.n < 18446744073709551616 ∧ y.parts.length ≤ 900 ∧ ∀ s ∈ y.parts, s.size ≤ 100 := fun y hy => by
  rcases List.mem_singleton.1 hy with rfl
  exact ksn_fine 1 1 49 (by decide)
theorem fine2 {a ea b eb : Nat} {ca cb : UInt8} (ha : a < 18446744073709551616) (hb : b < 18446744073709551616) : ∀ y ∈ [ksn a ea ca, ksn b eb cb], y.n < 18446744073709551616 ∧ y.parts.length ≤ 900 ∧ ∀ s ∈ y.parts, s.size ≤ 100 := fun y hy => by
  rcases List.mem_cons.1 hy with rfl | hy
  · exact ksn_fine a ea ca ha
  · rcases List.mem_singleton.1 hy with rfl
    exact ksn_fine b eb cb hb
theorem two_of {th : List SpV} {a c : Sp} (hp : (th.map SpV.s).Perm [a, c]) (hr : Rises th) (hac : a.n < c.n) : th.map SpV.s = [a, c] := by
  have hl : th.length = 2 := by have := hp.length_eq; simpa using this
  match th, hl, hp, hr with
  | [x, y], _, hp, hr =>
    have hx : x.s ∈ [a, c] := hp.subset (by simp)
    rcases List.mem_cons.1 hx with e | hx
    · have h2 : [y.s].Perm [c] := by
        have : (x.s :: [y.s]).Perm (a :: [c]) := hp
        rw [e] at this
        exact this.cons_inv
      have h3 : y.s ∈ [c] := h2.subset (by simp)
      rcases List.mem_singleton.1 h3 with h3
      show [x.s, y.s] = _
      rw [e, h3]
    · rcases List.mem_singleton.1 hx with e
      have h2 : [y.s].Perm [a] := by
        have : (x.s :: [y.s]).Perm (c :: [a]) := hp.trans (List.Perm.swap _ _ _)
        rw [e] at this
        exact this.cons_inv
      have h3 : y.s ∈ [a] := h2.subset (by simp)
      rcases List.mem_singleton.1 h3 with h3
      have h4 := hr 0 1 x y (by decide) rfl rfl
      have h5 : x.n = c.n := congrArg Sp.n e
      have h6 : y.n = a.n := congrArg Sp.n h3
      omega
def kp5 : Pd := ⟨[kfp 50, kfp 53, kw2, kw5], 1048576, -1⟩
theorem kcrash5 : pCrash kp5 [] = kp5 := by kernel_rfl
theorem kfound5 : foundS kp5 ((kp5.l.map Fi.n).map mkS) = [ksn 2 1 50, ksn 5 2 53] := kfound
theorem knames5 : ∀ s ∈ kp5.l.map Fi.n, s.length ≤ 100 := by decide
theorem kc_byts : Byts kc := fun i x h => by
  have hall : ∀ y ∈ kc, y < 256 := by decide
  exact hall x (List.mem_of_getElem? h)
set_option maxHeartbeats 4000000 in
set_option maxRecDepth 100000 in
theorem known_any (w : World) (hg : Glob w) : Calls Tryz.prog 9 #[] w fun e w' => e = .returned (.bool true) ∧ Below w.heap.size w w' := by
  go_enter Tryz.func9, Tryz.ntmps9
  go_wp2_with fail
  go_at_call 17
  refine (begun_any w hg 2).mono ?_
  rintro e w1 ⟨B, k, V, b, vt, vw, rfl, hB, x1, v1, b1⟩
  rw [show max (2 : Int) 1 = 2 from rfl] at x1 v1
  obtain ⟨c0, c1, c2, c3, c4, c5, c6, c7, c8⟩ := wld_cells x1
  have ba : Below w1.heap.size w1 (w1.alloc (.cells kcs 27)) := (Below.refl _ _).alloc (Nat.le_refl _) _
  have H1 : Hid (KI w (w1.alloc (.cells kcs 27)) B k V b 0 w1.heap.size kp0 []) := ⟨⟨vt, vw, [], rfl, v1.below ba⟩, x1.belowT ba, BoxT.new _ _ _, hB⟩
  have B1 := hide (b1.trans (ba.mono b1.size))
  clear x1 v1 b1 ba
  go_wp2_with fail
  simp only [kcs] at H1 B1
  generalize w1.alloc (.cells #[.int .i64 1, .int .i64 2, .int .i64 0, .slice none 0 0, .slice none 0 0, .slice none 0 0] 27) = w2 at *
  generalize w1.heap.size = g at *
  clear c0 c1 c2 c3 c4 c5 c6 c7 c8
  have y1 := H1.out.cell
  have hP1 := hide ((H1.out.below ((Below.refl _ _).drew)).put hg 1 1 (by decide) (by decide) (by decide) (by simp) (fun y hy => by cases hy) kput1)
  go_region_held3 (fun w' => w'.cell? ⟨B, 1, none⟩ = some (.pointer (some ⟨V, 0, none⟩))) (first | go_keep | exact y1 | exact y2 | exact y3 | exact y4)
    (first
      | (go_at_call 13; refine hP1.out.mono ?_; clear hP1; rintro e w3 ⟨rfl, h3⟩; have K3 := hide h3; have y2 := h3.cell; have hP2 := hide (h3.put hg 2 1 (by decide) (by decide) (by decide) (by simp) fine1 kput2); clear h3)
      | (go_at_call 13; refine hP2.out.mono ?_; clear hP2; rintro e w4 ⟨rfl, h4⟩; have K4 := hide h4; have y3 := h4.cell; have hP3 := hide (h4.put hg 5 2 (by decide) (by decide) (by decide) (by simp) (fine2 (by decide) (by decide)) kput5); clear h4)
      | (go_at_call 13; refine hP3.out.mono ?_; clear hP3; rintro e w5 ⟨rfl, h5⟩; have K5 := hide h5; have y4 := h5.cell; have hP4 := hide (h5.put hg 5 2 (by decide) (by decide) (by decide) (by simp) (fine2 (by decide) (by decide)) kput6); clear h5))
  go_wp2_with (first | (go_at_call 13; refine hP4.out.mono ?_; rintro e w6 ⟨rfl, h6⟩; have K6 := hide h6; have y5 := h6.cell; have y6 := (wld_cells h6.box).1; clear h6) | fail)
  clear hP4 K3 K4 K5 H1 y1 y2 y3 y4 B1
  obtain ⟨vt6, vw6, th6, hth6, va6⟩ := K6.out.va
  have hcr := kCrash va6.st (.slice none 0 0) [] (fun w' _ => ⟨none, 0, rfl, by simp, .inl rfl⟩) kp5 kcrash5
  refine hcr.mono ?_
  rintro e w7 ⟨rfl, s7, t7⟩
  have x7 := box_kb va6.st t7 K6.out.box (by decide)
  have hop := hide (open_ok s7 hg (by decide) knames5 (by decide) (by rw [kfound5]; exact fun x hx => (fine2 (by decide) (by decide) x hx).imp id fun h => h.imp id fun h s hs => Nat.le_trans (h s hs) (by unfold maxLen; omega)) x7 K6.out.at_)
  clear hcr va6 hth6 K6 s7 t7 x7 y5 y6
  go_wp2_with (first | (go_at_call 31; refine hop.out.mono ?_; clear hop; rintro e w8 ⟨rfl, V8, vt8, vw8, th8, x8, v8, p8, r8, t8⟩; rw [kfound5] at p8; have hth8 := two_of p8 r8 (by decide); obtain ⟨c0, c1, c2, c3, c4, c5, c6, c7, c8⟩ := wld_cells x8; have HV8 := hide v8; have HX8 := hide x8; have HT8 := hide hth8; clear t8 p8 r8 v8 x8 hth8) | fail)
  have hl8 : th8.length = 2 := by rw [len_of HT8.out]; rfl
  obtain ⟨x, y, rfl⟩ : ∃ x y, th8 = [x, y] := by
    match th8, hl8 with
    | [x, y], _ => exact ⟨x, y, rfl⟩
  have hx : x.s = ksn 2 1 50 := by have := HT8.out; simp only [List.map_cons, List.map_nil, List.cons.injEq] at this; exact this.1
  have hy : y.s = ksn 5 2 53 := by have := HT8.out; simp only [List.map_cons, List.map_nil, List.cons.injEq] at this; exact this.2.1
  have hxn : x.n = 2 := congrArg Sp.n hx
  have hyn : y.n = 5 := congrArg Sp.n hy
  have hye : y.ep = 2 := congrArg Sp.ep hy
  have hyc : y.ck.map Ck.l = [kc] := congrArg Sp.chunks hy
  have hsrt : Srt [x, y] := fun i j u v hij hu hv => by
    have hj := (List.getElem?_eq_some_iff.1 hv).1
    simp at hj
    obtain rfl : j = 1 := by omega
    obtain rfl : i = 0 := by omega
    obtain rfl : x = u := by simpa using hu
    obtain rfl : y = v := by simpa using hv
    omega
  have hli := list_any HV8.out (by simp)
  refine hli.mono ?_
  rintro e w9 ⟨rfl, n9⟩
  have V9 := hide (HV8.out.below n9.bel)
  have X9 := hide (HX8.out.belowT n9.bel)
  obtain ⟨cs9, bx9, sz9, ge9⟩ := n9.box
  have BX9 := hide bx9
  have e0 : cs9[0]? = some (.int .u64 2) := by rw [ge9 0 x (by simp) rfl, hxn]; rfl
  have e1 : cs9[1]? = some (.int .u64 5) := by rw [ge9 1 y (by simp) rfl, hyn]; rfl
  have hS9 := n9.bel.size
  have c9 := (wld_cells X9.out).2.1
  have hge := hide (get_any V9.out hg (by simp) hsrt y (by simp) (fun c hc => by
    have hm : c.l ∈ y.ck.map Ck.l := List.mem_map.2 ⟨c, hc, rfl⟩
    rw [hyc] at hm
    rcases List.mem_singleton.1 hm with hm
    rw [hm]
    exact ⟨by decide, kc_byts⟩) (by have := congrArg List.length hyc; simp at this; omega) (by rw [hyc, kgot]; decide))
  rw [hyc, hyn, hye] at hge
  clear hli n9 bx9 sz9 ge9 c0 c1 c2 c3 c4 c5 c6 c7 c8 HV8 HX8 HT8 hl8
  generalize w8.heap.size = G at *
  go_wp2_with (first | (go_at_call 25; refine hge.out.mono ?_; clear hge; rintro e w10 ⟨v10, xs10, rfl, g10⟩; have V10 := hide (V9.out.below g10.bel); have X10 := hide (X9.out.belowT g10.bel); have c10 := (wld_cells X10.out).2.1; have BX10 := hide (BX9.out.belowT g10.bel); have G10 := hide g10; obtain ⟨a10, k10, hv10⟩ := g10.own.shape; subst hv10; have hgn := hide (getN_any V10.out (by simp) hsrt 1 (fun z hz => (by rcases List.mem_cons.1 hz with rfl | hz; omega; rcases List.mem_singleton.1 hz with rfl; omega))); clear g10) | fail)
  have hxs : xs10.map SnV.s = [ks] := by rw [G10.out.is, kgot]
  obtain ⟨z, rfl⟩ : ∃ z, xs10 = [z] := by
    have hl := congrArg List.length hxs
    match xs10, hl with
    | [z], _ => exact ⟨z, rfl⟩
  have hz : z.s = ks := by simpa using hxs
  obtain ⟨g1, cap1, hv1, hc1⟩ := G10.out.own.put (by simp)
  cases hv1
  have f10 : w10.cell? ⟨g1, 1, none⟩ = some (.int .i64 2) := by
    have := hc1 1 (.int .i64 z.s.off) rfl
    rw [hz] at this
    exact this
  have hgl := World.block_lt_of_cell? w10 _ f10
  have hBs := V10.out.st.since
  refine hgn.out.mono ?_
  rintro e w11 ⟨rfl, b11⟩
  have f11 : w11.cell? ⟨g1, 1, none⟩ = some (.int .i64 2) := (b11.cell (p := ⟨g1, 1, none⟩) hgl).trans f10
  have x11 := BX10.out.belowT b11
  have g0 : w11.cell? ⟨G, 0, none⟩ = some (.int .u64 2) := (x11.cellAt 0).trans e0
  have g2 : w11.cell? ⟨G, 1, none⟩ = some (.int .u64 5) := (x11.cellAt 1).trans e1
  have HF := hide (hBs.trans (b11.mono hBs.size))
  clear hgn G10 hc1 hxs hz V10 X10 BX10 BX9 b11 x11 f10 hBs
  go_wp2
  go_ret
  exact ⟨rfl, HF.out⟩
end Go.Proofs.YtbfhcbihgleddaaGreatDoor
