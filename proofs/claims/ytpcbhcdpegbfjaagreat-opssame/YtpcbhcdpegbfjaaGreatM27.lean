/-
  Texts in build order: ONew.
-/
import Derived.Test.YtpcbhcdpegbfjaaGreatM26
/-
  New of a window.
-/
namespace Go.Proofs.YtpcbhcdpegbfjaaGreat
open Go.RowKit

theorem BoxT.all10 {t : TypeId} {w : World} {k : Nat} {c0 c1 c2 c3 c4 c5 c6 c7 c8 c9 : Value} (h : BoxT t w k #[c0, c1, c2, c3, c4, c5, c6, c7, c8, c9]) :
    w.cell? ⟨k, 0, none⟩ = some c0 ∧ w.cell? ⟨k, 1, none⟩ = some c1 ∧ w.cell? ⟨k, 2, none⟩ = some c2 ∧ w.cell? ⟨k, 3, none⟩ = some c3 ∧ w.cell? ⟨k, 4, none⟩ = some c4 ∧ w.cell? ⟨k, 5, none⟩ = some c5 ∧ w.cell? ⟨k, 6, none⟩ = some c6 ∧ w.cell? ⟨k, 7, none⟩ = some c7 ∧ w.cell? ⟨k, 8, none⟩ = some c8 ∧ w.cell? ⟨k, 9, none⟩ = some c9 := by
  unfold BoxT at h
  simp [World.cell?, h]
set_option maxHeartbeats 1000000 in
set_option maxRecDepth 100000 in
theorem newKeyed_any (w : World) (s : Nat) : Calls Tryz.prog 38 #[.pointer (some ⟨s, 0, none⟩)] w fun e w' => e = .returned (.agg #[.pointer (some ⟨s, 0, none⟩), .slice none 0 0, .int .i64 (-9223372036854775808), .int .i64 0]) ∧ Below w.heap.size w w' := by
  go_enter Tryz.func38, Tryz.ntmps38
  go_wp2_with fail
  exact bodyPost_ret (v := .agg #[.pointer (some ⟨s, 0, none⟩), .slice none 0 0, .int .i64 (-9223372036854775808), .int .i64 0]) (by simp [results, Tryz.results38, go_sem]) rfl ⟨rfl, below_box w _⟩
def NwPost (w : World) (k size slide a : Int) (e : Ending) (w' : World) : Prop := ∃ K s fp, e = .returned (.iface 100 (.pointer (some ⟨K, 0, none⟩))) ∧ BoxT 102 w' K #[.pointer (some ⟨s, 0, none⟩), .slice none 0 0, .int .i64 (-9223372036854775808), .int .i64 0, .int .i64 k, .int .i64 size, .int .i64 slide, .int .i64 a] ∧ SA w' s k size slide a fp [] ∧ (∀ i, fp i → w.heap.size ≤ i) ∧ w.heap.size ≤ K ∧ ¬ fp K ∧ Below w.heap.size w w'
set_option maxHeartbeats 4000000 in
set_option maxRecDepth 100000 in
theorem opOf_win (w : World) (ia : Option Addr) (il ic : Nat) (par op nn : Int) (ea : Option Addr) (el ec : Nat) (k size slide a : Int) :
    Calls Tryz.prog 27 #[.agg #[.int .i64 7, .slice ia il ic, .int .i64 par, .int .i64 op, .int .i64 nn, .slice ea el ec, .int .i64 a, .int .i64 k, .int .i64 size, .int .i64 slide]] w (NwPost w k size slide a) := by
  have HX := hide (BoxT.new 29 w #[.int .i64 7, .slice ia il ic, .int .i64 par, .int .i64 op, .int .i64 nn, .slice ea el ec, .int .i64 a, .int .i64 k, .int .i64 size, .int .i64 slide])
  have HB := hide (below_box w (.cells #[.int .i64 7, .slice ia il ic, .int .i64 par, .int .i64 op, .int .i64 nn, .slice ea el ec, .int .i64 a, .int .i64 k, .int .i64 size, .int .i64 slide] 29))
  go_enter Tryz.func27, Tryz.ntmps27
  go_upto_region 15 with fail
  refine wp_at (fun V => BoxT 29 V w.heap.size _ ∧ Below w.heap.size w V) ⟨HX.out, HB.out⟩ ?_
  clear HX HB
  rintro V ⟨XV, BV⟩
  have HXD := hide (XV.below (show Below V.heap.size V V.drew from (Below.refl _ _).drew))
  have HBD := hide BV.drew
  obtain ⟨_, _, _, _, _, _, y6, y7, y8, y9⟩ := HXD.out.all10
  have HN := hide (New_any V.drew k size slide a)
  clear XV BV
  go_region_held3 (fun w' => w'.cell? ⟨w.heap.size, 6, none⟩ = some (.int .i64 a) ∧ w'.cell? ⟨w.heap.size, 7, none⟩ = some (.int .i64 k) ∧ w'.cell? ⟨w.heap.size, 8, none⟩ = some (.int .i64 size) ∧ w'.cell? ⟨w.heap.size, 9, none⟩ = some (.int .i64 slide)) (first | go_keep | exact ⟨y6, y7, y8, y9⟩ | exact ⟨z6, z7, z8, z9⟩ | exact ⟨q6, q7, q8, q9⟩)
    (first
    | (go_at_call 39; refine HN.out.mono ?_; rintro e w2 ⟨s, fp, rfl, s2, f2, b2⟩; have HX2 := hide (HXD.out.below b2); obtain ⟨_, _, _, _, _, _, z6, z7, z8, z9⟩ := HX2.out.all10; have S2 := hide s2; have F2 := hide f2; have HB2 := hide (HBD.out.trans (b2.mono HBD.out.size)); clear s2 f2 b2)
    | (go_at_call 38; refine (newKeyed_any _ _).mono ?_; rintro e w3 ⟨rfl, b3⟩; obtain ⟨_, _, _, _, _, _, q6, q7, q8, q9⟩ := (HX2.out.below b3).all10; have S3 := hide (S2.out.below b3); have HB3 := hide (HB2.out.trans (b3.mono HB2.out.size)); clear b3)
    | fail)
  go_wp2_with fail
  go_ret
  have hb4 := below_box w3 (.cells #[.pointer (some ⟨s, 0, none⟩), .slice none 0 0, .int .i64 (-9223372036854775808), .int .i64 0, .int .i64 k, .int .i64 size, .int .i64 slide, .int .i64 a] 102)
  exact ⟨w3.heap.size, s, fp, rfl, BoxT.new 102 w3 _, S3.out.below hb4, fun i hi => Nat.le_trans HBD.out.size (F2.out i hi), HB3.out.size, fun e => by have := S3.out.flt _ e; omega, HB3.out.trans (hb4.mono HB3.out.size)⟩
set_option maxHeartbeats 2000000 in
set_option maxRecDepth 100000 in
theorem New_win (w : World) (ia : Option Addr) (il ic : Nat) (par op nn : Int) (ea : Option Addr) (el ec : Nat) (k size slide a : Int) :
    Calls Tryz.prog 10 #[.agg #[.int .i64 7, .slice ia il ic, .int .i64 par, .int .i64 op, .int .i64 nn, .slice ea el ec, .int .i64 a, .int .i64 k, .int .i64 size, .int .i64 slide]] w fun e w' => ∃ O K s fp, e = .returned (.pointer (some ⟨O, 0, none⟩)) ∧ OW w' O K s k size slide a fp [] (-9223372036854775808) 0 ∧ (∀ i, FO O K fp i → w.heap.size ≤ i) ∧ Below w.heap.size w w' := by
  have HX := hide (BoxT.new 29 w #[.int .i64 7, .slice ia il ic, .int .i64 par, .int .i64 op, .int .i64 nn, .slice ea el ec, .int .i64 a, .int .i64 k, .int .i64 size, .int .i64 slide])
  have HB := hide (below_box w (.cells #[.int .i64 7, .slice ia il ic, .int .i64 par, .int .i64 op, .int .i64 nn, .slice ea el ec, .int .i64 a, .int .i64 k, .int .i64 size, .int .i64 slide] 29))
  have HO := hide (fun W => opOf_win W ia il ic par op nn ea el ec k size slide a)
  go_enter Tryz.func10, Tryz.ntmps10
  go_wp2_with (go_at_call 27; refine (HO.out _).mono ?_; rintro e w2 ⟨K, s, fp, rfl, k2, s2, f2, g2, n2, b2⟩; have K2 := hide k2; have S2 := hide s2; have F2 := hide (And.intro f2 (And.intro g2 n2)); have B2 := hide (HB.out.trans (b2.mono HB.out.size)); clear k2 s2 f2 g2 n2 b2)
  go_ret
  have hb4 := below_box w2 (.cells #[.iface 100 (.pointer (some ⟨K, 0, none⟩))] 68)
  have hz := HB.out.size
  refine ⟨w2.heap.size, K, s, fp, rfl, ⟨BoxT.new 68 w2 _, K2.out.below hb4, S2.out.below hb4, fun e => by have := S2.out.flt _ e; omega, F2.out.2.2⟩, fun i hi => ?_, B2.out.trans (hb4.mono B2.out.size)⟩
  rcases hi with rfl | rfl | hi
  · exact B2.out.size
  · exact Nat.le_trans hz F2.out.2.1
  · exact Nat.le_trans hz (F2.out.1 i hi)
end Go.Proofs.YtpcbhcdpegbfjaaGreat
