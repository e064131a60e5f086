/-
  Walks over the statements' own example: known.
-/
import Derived.Test.YtnokibjhkdaamaaDCrashW
import Derived.Lib.SlBytesConst
namespace Go.Proofs.Ytnokibjhkdaamaa
open Go.RowKit Go.Maps

theorem lit_seg (w : World) (l : List Nat) (mk : Nat × Nat) (hl : l.length ≤ 1000) : Seg (w.alloc (.cells (bs l).toArray 5 mk)) (.slice (some ⟨w.heap.size, 0, none⟩) l.length l.length) l := by
  refine ⟨_, _, rfl, Nat.le_refl _, by omega, by omega, .inr ⟨_, 0, rfl, by simp, fun i x hx => ?_⟩⟩
  have hb := heap_alloc_new w (.cells (bs l).toArray 5 mk)
  unfold World.cell?
  dsimp only
  rw [hb]
  simp [bs, hx]
theorem lit_iseg (w : World) (l : List Int) (hl : l.length ≤ 1000) : ISeg (w.alloc (.cells (l.map (Value.int .i64)).toArray 3)) (.slice (some ⟨w.heap.size, 0, none⟩) l.length l.length) l := by
  refine ⟨_, _, rfl, by omega, .inr ⟨_, 0, rfl, by simp, fun i x hx j u hu => ?_⟩⟩
  cases j with
  | succ j => simp at hu
  | zero =>
    simp at hu
    subst hu
    have hb := heap_alloc_new w (.cells (l.map (Value.int .i64)).toArray 3)
    unfold World.cell?
    dsimp only
    rw [hb]
    simp [hx]
/-- What follows on a disk that was made here. -/
structure Since (w0 : World) (w : World) (k b : Nat) : Prop where
  lk : w0.heap.size ≤ k
  lb : w0.heap.size ≤ b
  below : Below w0.heap.size w0 w
theorem Since.step {w0 w w' : World} {k b : Nat} (h : Since w0 w k b) (ht : Turned k b w w') : Since w0 w' k b := by
  refine ⟨h.lk, h.lb, ⟨ht.os.trans h.below.os, ht.tape.trans h.below.tape, ht.output.trans h.below.output, Nat.le_trans h.below.size ht.size, fun i hi => ?_⟩⟩
  have h1 := h.lk
  have h2 := h.lb
  rw [ht.block i (Nat.lt_of_lt_of_le hi h.below.size) (by omega) (by omega)]
  exact h.below.block i hi
theorem Byts.lit {l : List Nat} (h : l.all (fun x => decide (x < 256)) = true) : Byts l := fun i x hx => by
  have := List.all_eq_true.1 h x (List.mem_of_getElem? hx)
  simpa using this

def q1 : Pd := ⟨[⟨[97], [120, 121, 122], 0⟩], 100, -1⟩
def q2 : Pd := ⟨[⟨[97], [120, 121, 122], 3⟩], 100, -1⟩
def q3 : Pd := ⟨[⟨[97], [112, 113, 114, 115], 0⟩], 100, -1⟩
def q4 : Pd := ⟨[⟨[97], [112, 113, 114, 115], 0⟩, ⟨[98], [113], 0⟩], 100, -1⟩
def q5 : Pd := ⟨[⟨[97], [112, 113], 2⟩, ⟨[98], [], 0⟩], 100, -1⟩
def q6 : Pd := ⟨[⟨[98], [112, 113], 2⟩], 100, -1⟩
theorem k1 : pWrite ⟨[], 100, -1⟩ [97] [120, 121, 122] = (q1, 0) := rfl
theorem k2 : pSync q1 [97] = (q2, 0) := rfl
theorem k3 : pWrite q2 [97] [112, 113, 114, 115] = (q3, 0) := rfl
theorem k4 : pWrite q3 [98] [113] = (q4, 0) := rfl
theorem k5 : pCrash q4 [2] = q5 := rfl
theorem k6 : pFind q5 [97] = (some ⟨[97], [112, 113], 2⟩, 0) := rfl
theorem k7 : pFind q5 [98] = (some ⟨[98], [], 0⟩, 0) := rfl
theorem k8 : pWrite q5 [99] (List.replicate 99 0) = (q5, 22) := by
  unfold pWrite
  rw [if_neg (by decide), if_neg (by decide), if_pos (by rw [List.length_replicate]; decide)]
theorem k9 : pRename q5 [97] [98] = (q6, 0) := rfl
theorem k10 : pList q6 = [[98]] := rfl
theorem k11 : pFind q6 [97] = (none, 20) := rfl

/-- Bytes that lie somewhere lie outside the disk. -/
theorem Seg.turned {w w' : World} {k b n : Nat} {d : Dk} {v : Value} {l : List Nat} (h : Seg w v l) (hd : DiskAt w k b n d) (ht : Turned k b w w') : Seg w' v l := by
  obtain ⟨ao, cap, h1, h2, h3, h3', h4⟩ := h
  refine ⟨ao, cap, h1, h2, h3, h3', ?_⟩
  rcases h4 with h4 | ⟨g, off, h5, h6, h7⟩
  · exact .inl h4
  · by_cases h0 : l = []
    · exact .inl h0
    obtain ⟨x, hx⟩ : ∃ x, l[0]? = some x := ⟨_, List.getElem?_eq_getElem (by have := List.length_pos_iff.2 h0; omega)⟩
    have hc := h7 0 x hx
    have hgk : g ≠ k := by
      rintro rfl
      have hb := hd.box
      unfold BoxT at hb
      rw [World.cell?] at hc
      dsimp only at hc
      rw [hb] at hc
      match off + 0, hc with
      | 0, hc => simp at hc
      | 1, hc => simp at hc
      | 2, hc => simp at hc
      | 3, hc => simp at hc
      | _ + 4, hc => simp at hc
    have hgb : g ≠ b := by
      rintro rfl
      obtain ⟨es, clock, hb, _⟩ := hd.map
      rw [World.cell?] at hc
      dsimp only at hc
      rw [hb] at hc
      cases hc
    exact .inr ⟨g, off, h5, Nat.lt_of_lt_of_le h6 ht.size, fun i x hi => (World.cell?_of_block (ht.block g h6 hgk hgb)).trans (h7 i x hi)⟩
/-- A disk that was made behind w0. -/
structure St (w0 w : World) (k b n : Nat) (p : Pd) : Prop where
  d : PdAt w k b n p
  s : Since w0 w k b
theorem St.below {w0 w w' : World} {k b n : Nat} {p : Pd} (h : St w0 w k b n p) (hb : Below w.heap.size w w') : St w0 w' k b n p := ⟨h.d.below hb, h.s.step (Turned.below hb)⟩
theorem kWrite {w0 w : World} {k b n : Nat} {p : Pd} (h : St w0 w k b n p) (hn : n + 1 ≤ 1000000) (s : ByteArray) (hs : s.size ≤ maxLen) (vb : Value) (l : List Nat) (hsg : Seg w vb l) (hl : Byts l) (p' : Pd) (er : Int) (hp : pWrite p (nm s) l = (p', er)) :
    Calls Try.prog 18 #[.pointer (some ⟨k, 0, none⟩), .string s, vb] w fun e w' => e = .returned (.int .i64 er) ∧ St w0 w' k b (n + 1) p' ∧ Turned k b w w' := by
  have := Write_p h.d hn s hs vb l hsg hl
  rw [hp] at this
  exact this.mono fun e w' ⟨h1, h2, h3⟩ => ⟨h1, ⟨h2, h.s.step h3⟩, h3⟩
theorem kSync {w0 w : World} {k b n : Nat} {p : Pd} (h : St w0 w k b n p) (hn : n + 1 ≤ 1000000) (s : ByteArray) (hs : s.size ≤ maxLen) (p' : Pd) (er : Int) (hp : pSync p (nm s) = (p', er)) :
    Calls Try.prog 21 #[.pointer (some ⟨k, 0, none⟩), .string s] w fun e w' => e = .returned (.int .i64 er) ∧ St w0 w' k b (n + 1) p' ∧ Turned k b w w' := by
  have := Sync_p h.d hn s hs
  rw [hp] at this
  exact this.mono fun e w' ⟨h1, h2, h3⟩ => ⟨h1, ⟨h2, h.s.step h3⟩, h3⟩
theorem kRename {w0 w : World} {k b n : Nat} {p : Pd} (h : St w0 w k b n p) (hn : n + 1 ≤ 1000000) (s t : ByteArray) (hs : s.size ≤ maxLen) (ht : t.size ≤ maxLen) (p' : Pd) (er : Int) (hp : pRename p (nm s) (nm t) = (p', er)) :
    Calls Try.prog 23 #[.pointer (some ⟨k, 0, none⟩), .string s, .string t] w fun e w' => e = .returned (.int .i64 er) ∧ St w0 w' k b (n + 1) p' ∧ Turned k b w w' := by
  have := Rename_p h.d hn s t hs ht
  rw [hp] at this
  exact this.mono fun e w' ⟨h1, h2, h3⟩ => ⟨h1, ⟨h2, h.s.step h3⟩, h3⟩
theorem kRead {w0 w : World} {k b n : Nat} {p : Pd} (h : St w0 w k b n p) (s : ByteArray) (hs : s.size ≤ maxLen) (o : Option Fi) (er : Int) (hp : pFind p (nm s) = (o, er)) :
    Calls Try.prog 27 #[.pointer (some ⟨k, 0, none⟩), .string s] w fun e w' => ∃ v, e = .returned (.tuple #[v, .int .i64 er]) ∧ Seg w' v (fData o) ∧ St w0 w' k b n p ∧ Below w.heap.size w w' := by
  have := Read_p h.d s hs
  rw [hp] at this
  exact this.mono fun e w' ⟨v, h1, h2, h3⟩ => ⟨v, h1, h2, h.below h3, h3⟩
theorem kList {w0 w : World} {k b n : Nat} {p : Pd} (h : St w0 w k b n p) (l : List (List UInt8)) (hp : pList p = l) :
    Calls Try.prog 37 #[.pointer (some ⟨k, 0, none⟩)] w fun e w' => ∃ v, e = .returned v ∧ NSeg w'.heap.size w' v l ∧ NewSl w.heap.size v ∧ St w0 w' k b n p ∧ Below w.heap.size w w' := by
  have := List_any h.d
  rw [hp] at this
  exact this.mono fun e w' ⟨v, h1, h2, h3, h4⟩ => ⟨v, h1, h2, h3, h.below h4, h4⟩
theorem kCrash {w0 w : World} {k b n : Nat} {p : Pd} (h : St w0 w k b n p) (vk : Value) (kl : List Int) (hk : Hid (∀ w', Turned k b w w' → ISeg w' vk kl)) (p' : Pd) (hp : pCrash p kl = p') :
    Calls Try.prog 14 #[.pointer (some ⟨k, 0, none⟩), vk] w fun e w' => e = .returned (.tuple #[]) ∧ St w0 w' k b n p' ∧ Turned k b w w' := by
  have := Crash_p h.d vk kl hk
  rw [hp] at this
  exact this.mono fun e w' ⟨h1, h2, h3⟩ => ⟨h1, ⟨h2, h.s.step h3⟩, h3⟩
theorem lit_seg2 {w : World} {l : List Nat} {mk : Nat × Nat} (cs : Array Value) (hcs : cs = (bs l).toArray) (n : Nat) (hn : n = l.length) (hl : l.length ≤ 1000) : Seg (w.alloc (.cells cs 5 mk)) (.slice (some ⟨w.heap.size, 0, none⟩) n n) l := by
  subst hcs; subst hn; exact lit_seg w l mk hl
theorem St.alloc {w0 w : World} {k b n : Nat} {p : Pd} (h : St w0 w k b n p) (o : Obj) : St w0 (w.alloc o) k b n p := h.below ((Below.refl _ _).alloc (Nat.le_refl _) o)
theorem made_zeros (n : Nat) : madeCells (Value.int .u8 0).cells n = (bs (List.replicate n 0)).toArray := by
  apply Array.ext
  · simp [size_madeCells, bs]
  · intro i h1 h2
    simp [madeCells, bs, Value.cells, Nat.mod_one]
theorem make_zeros (w : World) (n : Nat) (hn : n ≤ 1000000) : (Instr.makeSlice 35 (.int .i64 (n : Int)) (.int .i64 (n : Int))).run Try.prog w = .ok (.slice (some ⟨w.heap.size, 0, none⟩) n n) (w.alloc (.cells (bs (List.replicate n 0)).toArray 5)) := by
  obtain ⟨i0, hi, hz0, hz1, hz2⟩ := info_parts Try.info5
  have := run_make (P := Try.prog) w 35 5 i0 (.int .u8 0) Try.underlying35 hi hz0 .i64 .i64 (n : Int) (n : Int) (by omega) (Int.le_refl _) (by rw [hz2]; omega) (by omega)
  rw [hz1, Nat.mul_one, Int.toNat_natCast, made_zeros] at this
  exact this

set_option maxHeartbeats 4000000 in
set_option maxRecDepth 100000 in
theorem known_any (w : World) : Calls Try.prog 8 #[] w fun e w' => e = .returned (.bool true) ∧ Below w.heap.size w w' := by
  have hnew := New_p w 100 (by decide)
  go_enter Try.func8, Try.ntmps8
  go_wp2_with fail
  refine hnew.mono ?_
  rintro e w1 ⟨rfl, h1, hb1⟩
  have H1 : Hid (St w w1 (w.heap.size + 1) w.heap.size 0 ⟨[], 100, -1⟩) := ⟨h1, ⟨by omega, by omega, hb1⟩⟩
  clear h1 hb1 hnew
  generalize w.heap.size + 1 = k at *
  generalize hbb : w.heap.size = b at H1
  clear hbb
  have hcv := Lib.run_convert_bytes_const (P := Try.prog) w1 35 5 #[.int .u8 120, .int .u8 121, .int .u8 122] 3 3 Try.underlying35 Try.underlying5
  go_wp2_with fail
  clear hcv
  refine (kWrite (H1.out.alloc _) (by omega) ⟨#[97]⟩ (by decide) _ [120, 121, 122] (lit_seg2 _ rfl _ rfl (by decide)) (Byts.lit (by decide)) q1 0 k1).mono ?_
  rintro e w2 ⟨rfl, h2, -⟩
  have H2 : Hid _ := h2
  clear H1 h2
  go_wp2_with fail
  refine (kSync H2.out (by omega) ⟨#[97]⟩ (by decide) q2 0 k2).mono ?_
  rintro e w3 ⟨rfl, h3, -⟩
  have H3 : Hid _ := h3
  clear H2 h3
  have hcv := Lib.run_convert_bytes_const (P := Try.prog) w3 35 5 #[.int .u8 112, .int .u8 113, .int .u8 114, .int .u8 115] 4 4 Try.underlying35 Try.underlying5
  go_wp2_with fail
  clear hcv
  refine (kWrite (H3.out.alloc _) (by omega) ⟨#[97]⟩ (by decide) _ [112, 113, 114, 115] (lit_seg2 _ rfl _ rfl (by decide)) (Byts.lit (by decide)) q3 0 k3).mono ?_
  rintro e w4 ⟨rfl, h4, -⟩
  have H4 : Hid _ := h4
  clear H3 h4
  have hcv := Lib.run_convert_bytes_const (P := Try.prog) w4 35 5 #[.int .u8 113] 1 1 Try.underlying35 Try.underlying5
  go_wp2_with fail
  clear hcv
  refine (kWrite (H4.out.alloc _) (by omega) ⟨#[98]⟩ (by decide) _ [113] (lit_seg2 _ rfl _ rfl (by decide)) (Byts.lit (by decide)) q4 0 k4).mono ?_
  rintro e w5 ⟨rfl, h5, -⟩
  have H5 : Hid _ := h5
  clear H4 h5
  go_wp2_with fail
  refine (kCrash (H5.out.alloc _) _ [2] (fun w' ht => LSeg.turned (lit_iseg w5 [2] (by decide)) (base := w5.heap.size) (by rintro a n c e; cases e; exact Nat.le_refl _) H5.out.d.at_.box.lt H5.out.d.at_.map.lt ht) q5 k5).mono ?_
  rintro e w6 ⟨rfl, h6, -⟩
  have H6 : Hid _ := h6
  clear H5 h6
  go_wp2_with fail
  refine (kRead H6.out ⟨#[97]⟩ (by decide) _ 0 k6).mono ?_
  rintro e w7 ⟨v7, rfl, g7, h7, -⟩
  have H7 : Hid _ := And.intro h7 g7
  clear H6 h7 g7
  go_wp2_with fail
  refine (kRead H7.out.1 ⟨#[98]⟩ (by decide) _ 0 k7).mono ?_
  rintro e w8 ⟨v8, rfl, g8, h8, b8⟩
  have H8 : Hid _ := And.intro h8 (And.intro (H7.out.2.below b8) g8)
  clear H7 h8 g8 b8
  have hmk : (Instr.makeSlice 35 (.int .i64 99) (.int .i64 99)).run Try.prog w8 = .ok (.slice (some ⟨w8.heap.size, 0, none⟩) 99 99) (w8.alloc (.cells (bs (List.replicate 99 0)).toArray 5)) := make_zeros w8 99 (by decide)
  have HSG : Hid _ := lit_seg w8 (List.replicate 99 0) (0, 0) (by rw [List.length_replicate]; decide)
  have hHB := (Below.refl w8.heap.size w8).alloc (Nat.le_refl _) (.cells (bs (List.replicate 99 0)).toArray 5)
  have H9 : Hid _ := And.intro (H8.out.1.below hHB) (And.intro (H8.out.2.1.below hHB) (H8.out.2.2.below hHB))
  rw [List.length_replicate] at HSG
  generalize w8.alloc (.cells (bs (List.replicate 99 0)).toArray 5) = w9 at *
  clear hHB H8
  go_wp2_with fail
  refine (kWrite H9.out.1 (by omega) ⟨#[99]⟩ (by decide) _ (List.replicate 99 0) HSG.out (fun i x hx => by rw [List.getElem?_replicate] at hx; split at hx <;> simp_all <;> omega) q5 22 k8).mono ?_
  rintro e w10 ⟨rfl, h10, t10⟩
  have H10 : Hid _ := And.intro h10 (And.intro (H9.out.2.1.turned H9.out.1.d.at_ t10) (H9.out.2.2.turned H9.out.1.d.at_ t10))
  clear h10 t10 H9 HSG hmk
  go_wp2_with fail
  refine (kRename H10.out.1 (by omega) ⟨#[97]⟩ ⟨#[98]⟩ (by decide) (by decide) q6 0 k9).mono ?_
  rintro e w11 ⟨rfl, h11, t11⟩
  have H11 : Hid _ := And.intro h11 (And.intro (H10.out.2.1.turned H10.out.1.d.at_ t11) (H10.out.2.2.turned H10.out.1.d.at_ t11))
  clear h11 t11 H10
  go_wp2_with fail
  refine (kList H11.out.1 [[98]] k10).mono ?_
  rintro e w12 ⟨vl, rfl, n12, -, h12, b12⟩
  have H12 : Hid _ := And.intro h12 (And.intro (H11.out.2.1.below b12) (And.intro (H11.out.2.2.below b12) n12))
  clear h12 n12 b12 H11
  go_wp2_with fail
  refine (kRead H12.out.1 ⟨#[97]⟩ (by decide) none 20 k11).mono ?_
  rintro e w13 ⟨vz, rfl, -, h13, b13⟩
  obtain ⟨-, x12, y12, n12⟩ := H12.out
  have hcv := seg_convert (x12.below b13)
  have hst : strOf (fData (some ⟨[97], [112, 113], 2⟩)) = ⟨#[112, 113]⟩ := rfl
  rw [hst] at hcv
  obtain ⟨ay, cy, rfl, -⟩ := y12
  obtain ⟨al, cl, rfl, -, hl⟩ := n12
  rcases hl with hl | ⟨gl, ol, rfl, hgl, hcl⟩
  · cases hl
  have hc0 := (b13.cell (p := ⟨gl, ol + 0 * 1 + 0, none⟩) hgl).trans (hcl 0 [98] rfl 0 _ rfl)
  have hus := Used_p h13.d
  have HE : Hid _ := h13.s.below
  clear h13 b13 x12 hcl H12
  simp only [Nat.zero_mul, Nat.add_zero, fData, List.length_nil, List.length_cons] at *
  go_wp2_with fail
  refine hus.mono ?_
  rintro e w14 ⟨rfl, rfl⟩
  have e2 : ((fSum q6.l : Nat) : Int) = 2 := rfl
  rw [e2]
  go_wp2
  go_ret
  exact ⟨rfl, HE.out⟩
end Go.Proofs.Ytnokibjhkdaamaa
