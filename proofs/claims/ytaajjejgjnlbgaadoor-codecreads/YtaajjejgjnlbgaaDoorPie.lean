/-
  Walks over package codec's writers of parts of snapshots.
-/
import Derived.Test.YtaajjejgjnlbgaaDoorMan
import Derived.Test.YtaajjejgjnlbgaaDoorRdf
namespace Go.Proofs.YtaajjejgjnlbgaaDoor
open Go.RowKit

/-- v is a slice of just the things xs, each of sz cells, which lie below block B. -/
def LSeg {α : Type} (sz : Nat) (cs : α → List Value) (B : Nat) (w : World) (v : Value) (xs : List α) : Prop :=
  ∃ ao cap, v = .slice ao xs.length cap ∧ xs.length ≤ 140737488355328 ∧ (xs = [] ∨ ∃ b off, ao = some ⟨b, off, none⟩ ∧ b < B ∧ ∀ (i : Nat) (x : α), xs[i]? = some x → ∀ (j : Nat) (u : Value), (cs x)[j]? = some u → w.cell? ⟨b, off + i * sz + j, none⟩ = some u)
section
variable {α : Type} {sz : Nat} {cs : α → List Value} {B : Nat} {w w' : World} {v : Value} {xs : List α}
theorem LSeg.kept (h : LSeg sz cs B w v xs) (hk : Kept B w w') (hB : B ≤ w.heap.size) : LSeg sz cs B w' v xs := by
  obtain ⟨ao, cap, h1, h2, h4⟩ := h
  refine ⟨ao, cap, h1, h2, ?_⟩
  rcases h4 with h4 | ⟨b, off, h5, h6, h7⟩
  · exact .inl h4
  · exact .inr ⟨b, off, h5, h6, fun i x hi j u hu => (World.cell?_of_block (hk.block b (by omega) (.inl h6))).trans (h7 i x hi j u hu)⟩
theorem LSeg.mono {B' : Nat} (h : LSeg sz cs B w v xs) (hB : B ≤ B') : LSeg sz cs B' w v xs := by
  obtain ⟨ao, cap, h1, h2, h4⟩ := h
  refine ⟨ao, cap, h1, h2, ?_⟩
  rcases h4 with h4 | ⟨b, off, h5, h6, h7⟩
  · exact .inl h4
  · exact .inr ⟨b, off, h5, by omega, h7⟩
theorem LSeg.below (h : LSeg sz cs B w v xs) (hb : Below B w w') : LSeg sz cs B w' v xs := by
  obtain ⟨ao, cap, h1, h2, h4⟩ := h
  refine ⟨ao, cap, h1, h2, ?_⟩
  rcases h4 with h4 | ⟨b, off, h5, h6, h7⟩
  · exact .inl h4
  · exact .inr ⟨b, off, h5, h6, fun i x hi j u hu => (hb.cell (p := ⟨b, off + i * sz + j, none⟩) h6).trans (h7 i x hi j u hu)⟩
end

/-- A pane. -/
structure Pn where
  ke : Int
  fr : Int
  to : Int
  ac : Int
def Pn.cs (p : Pn) : List Value := [.int .i64 p.ke, .int .i64 p.fr, .int .i64 p.to, .int .i64 p.ac]
def pnb (p : Pn) : List Nat := sbe p.ke ++ (sbe p.fr ++ (sbe p.to ++ sbe p.ac))
/-- A captured frame. -/
structure Ot where
  ch : Int
  f : Frm
def Ot.cs (o : Ot) : List Value := [.int .i64 o.ch, .int .i64 o.f.kd, .int .i64 o.f.ke, .int .i64 o.f.ti, .int .i64 o.f.va, .int .i64 o.f.ma, .int .u64 o.f.n, .bool o.f.ov]
def Frm.fits (f : Frm) : Bool := YtaajjejgjnlbgaaDoor.fits f.kd f.ke f.ti f.va f.ma f.n f.ov
def Frm.b (f : Frm) : List Nat := frb f.kd f.ke f.ti f.va f.ma f.n f.ov
def Ot.fits (o : Ot) : Bool := decide (0 ≤ o.ch ∧ o.ch ≤ 65535) && o.f.fits
def otb (o : Ot) : List Nat := be 2 o.ch.toNat ++ o.f.b

theorem sbe_len (n : Int) : (sbe n).length = 8 := be_length _ _
theorem pnb_len (p : Pn) : (pnb p).length = 32 := by simp [pnb, sbe_len]
theorem otb_len (o : Ot) : (otb o).length ≤ 27 := by
  have := frb_len o.f.kd o.f.ke o.f.ti o.f.va o.f.ma o.f.n o.f.ov
  simp only [otb, List.length_append, be_length, Frm.b]; omega

set_option maxHeartbeats 1000000 in
set_option maxRecDepth 100000 in
theorem writePane_any (base : Nat) (v : Value) (l : List Nat) (p : Pn) (w : World) (hl : l.length ≤ 1000000000) (hb : base ≤ w.heap.size) (hown : Own base w v l) :
    Calls Tryd.prog 76 #[v, .agg #[.int .i64 p.ke, .int .i64 p.fr, .int .i64 p.to, .int .i64 p.ac]] w fun e w' => ∃ v', e = .returned v' ∧ Own base w' v' (l ++ pnb p) ∧ Kept base w w' := by
  obtain ⟨ke, fr, to, ac⟩ := p
  simp only
  have bx := BoxT.new 100 w #[.int .i64 ke, .int .i64 fr, .int .i64 to, .int .i64 ac]
  have hk := (Kept.refl base w).alloc (.cells #[.int .i64 ke, .int .i64 fr, .int .i64 to, .int .i64 ac] 100)
  go_enter Tryd.func76, Tryd.ntmps76
  go_wp2_with fail
  refine (writeSigned_any base v l ke _ (by omega) (by simp; omega) (hown.alloc _)).mono ?_
  rintro e w1 ⟨v1, rfl, ho1, hk1⟩
  have bx := bx.kept hk1 (by decide)
  have hk := hk.trans hk1
  have hz := hk.size
  obtain ⟨c0, c1, c2, c3⟩ := bx.cells4
  clear hk1
  go_wp2_with fail
  refine (writeSigned_any base v1 _ fr _ (by simp [sbe_len]; omega) (by omega) ho1).mono ?_
  rintro e w2 ⟨v2, rfl, ho2, hk2⟩
  have bx := bx.kept hk2 (by decide)
  have hk := hk.trans hk2
  clear hk2 c0 c1 c2 c3 ho1 hz
  have hz := hk.size
  obtain ⟨c0, c1, c2, c3⟩ := bx.cells4
  go_wp2_with fail
  refine (writeSigned_any base v2 _ to _ (by simp [sbe_len]; omega) (by omega) ho2).mono ?_
  rintro e w3 ⟨v3, rfl, ho3, hk3⟩
  have bx := bx.kept hk3 (by decide)
  have hk := hk.trans hk3
  clear hk3 c0 c1 c2 c3 ho2 hz
  have hz := hk.size
  obtain ⟨c0, c1, c2, c3⟩ := bx.cells4
  go_wp2_with fail
  refine (writeSigned_any base v3 _ ac _ (by simp [sbe_len]; omega) (by omega) ho3).mono ?_
  rintro e w4 ⟨v4, rfl, ho4, hk4⟩
  have hk := hk.trans hk4
  clear c0 c1 c2 c3 hk4
  go_wp2
  go_ret
  exact ⟨_, rfl, by simpa [pnb] using ho4, hk⟩

theorem BoxT.cells8 {t : TypeId} {w : World} {k : Nat} {c0 c1 c2 c3 c4 c5 c6 c7 : Value} (h : BoxT t w k #[c0, c1, c2, c3, c4, c5, c6, c7]) :
    w.cell? ⟨k, 0, none⟩ = some c0 ∧ w.cell? ⟨k, 1, none⟩ = some c1 ∧ w.cell? ⟨k, 2, none⟩ = some c2 ∧ w.cell? ⟨k, 3, none⟩ = some c3 ∧ w.cell? ⟨k, 4, none⟩ = some c4 ∧ w.cell? ⟨k, 5, none⟩ = some c5 ∧ w.cell? ⟨k, 6, none⟩ = some c6 ∧ w.cell? ⟨k, 7, none⟩ = some c7 := by
  unfold BoxT at h
  simp [World.cell?, h]

set_option maxHeartbeats 1000000 in
set_option maxRecDepth 100000 in
theorem writeOut_any (base : Nat) (v : Value) (l : List Nat) (ch kd ke ti va ma n : Int) (ov : Bool) (w : World) (h0 : 0 ≤ ch) (h1 : ch ≤ 65535) (hkd : Hid (kd = 1 ∨ kd = 2 ∨ kd = 3)) (hn : 0 ≤ n) (hl : l.length ≤ 100000000) (hb : base ≤ w.heap.size) (hown : Own base w v l) :
    Calls Tryd.prog 78 #[v, .agg #[.int .i64 ch, .int .i64 kd, .int .i64 ke, .int .i64 ti, .int .i64 va, .int .i64 ma, .int .u64 n, .bool ov]] w fun e w' => ∃ v', e = .returned v' ∧ Own base w' v' (l ++ (be 2 ch.toNat ++ frb kd ke ti va ma n ov)) ∧ Kept base w w' := by
  have bx := BoxT.new 94 w #[.int .i64 ch, .int .i64 kd, .int .i64 ke, .int .i64 ti, .int .i64 va, .int .i64 ma, .int .u64 n, .bool ov]
  have hk := (Kept.refl base w).alloc (.cells #[.int .i64 ch, .int .i64 kd, .int .i64 ke, .int .i64 ti, .int .i64 va, .int .i64 ma, .int .u64 n, .bool ov] 94)
  have hw : IntKind.u64.wrap ch = ch := by rw [IntKind.wrap_u64]; omega
  go_enter Tryd.func78, Tryd.ntmps78
  go_wp2_with fail
  refine (writeNumber_at base v l _ ch _ (by omega) (by omega) h0 (by omega) (by simp; omega) (hown.alloc _)).mono ?_
  rintro e w1 ⟨v1, rfl, ho1, hk1⟩
  have bx := bx.kept hk1 (by decide)
  have hk := hk.trans hk1
  have hz := hk.size
  obtain ⟨c0, c1, c2, c3, c4, c5, c6, c7⟩ := bx.cells8
  clear hk1
  go_wp2_with fail
  refine (writeFrame_any base v1 _ kd ke ti va ma n ov _ hkd.out hn (by simp [be_length]; omega) (by omega) ho1).mono ?_
  rintro e w2 ⟨v2, rfl, ho2, hk2⟩
  have hk := hk.trans hk2
  clear c0 c1 c2 c3 c4 c5 c6 c7 hk2
  go_wp2
  go_ret
  exact ⟨_, rfl, by simpa using ho2, hk⟩
end Go.Proofs.YtaajjejgjnlbgaaDoor
