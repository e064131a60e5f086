/-
  Walks over the document's writer of manifests.
-/
import Derived.Test.YtaajjejgjnlbgaaDoorMan
import Derived.Deep.RegionHeld3
namespace Go.Proofs.YtaajjejgjnlbgaaDoor
open Go.RowKit

/-- append's law at rows of bytes, as one step of a region that draws. -/
theorem step_own {ops : Array Oper} {o : Oper} {a : Act} {w : World} {K : Act → World → Prop} {Q : Exit → Act → World → Prop} {E : Prop} (hgd : o.guard = none) (s x : Operand)
    (ho : o.op = .call { callee := .builtin .append, args := #[s, x], argTypes := #[30, 30] }) (base : Nat) (v : Value) (l : List Nat) (hs : a.eval s = v) (hown : Own base w v l)
    (ad : Addr) (c : Nat) (news : List Nat) (hx : a.eval x = .slice (some ad) news.length c) (hnews : ∀ j (h : j < news.length), w.cell? (ad.add j) = some (.int .u8 (news[j] : Nat)))
    (hl : l.length + news.length ≤ 100000000000) (hbase : base ≤ w.heap.size)
    (h : ∀ v' w', Own base w' v' (l ++ news) → Kept base w w' → K (a.put o.dst v') w') : if Region.wanted o (yielded ops a.tmps) = true then Oper.wp Tryd.prog o a w K Q else E := by
  have hw : Region.wanted o (yielded ops a.tmps) = true := by simp [Region.wanted, hgd]
  rw [if_pos hw]
  obtain ⟨i0, hi, hz0, hz1, hz2⟩ := info_parts Tryd.info5
  refine wp_append_own w s x 30 ho base 5 i0 (.int .u8 0) 1 1 Tryd.underlying30 hi hz0 hz1 hz2 rfl (by decide) v l.length (bs l) hs hown ad news.length c (bs news) hx (by simp [bs]) ?_ ?_ ?_ ?_ hbase ?_
  · intro j u hj
    have hj' : j < news.length := by have := (List.getElem?_eq_some_iff.1 hj).1; simpa [bs] using this
    rw [hnews j hj']
    have : (bs news)[j]? = some (.int .u8 (news[j] : Nat)) := by simp [bs, List.getElem?_map, List.getElem?_eq_getElem hj']
    rw [this] at hj; exact hj
  · intro u hu
    simp only [bs, List.mem_map] at hu
    obtain ⟨x, _, rfl⟩ := hu
    rfl
  · unfold maxLen; omega
  · omega
  · intro v' w' h1 h2 _
    refine h v' w' ?_ (Kept.of_grown hown h2)
    show w'.ownsRow base 5 1 v' (l ++ news).length (bs (l ++ news))
    rw [List.length_append, bs_append]; exact h1
theorem step_str {ops : Array Oper} {o : Oper} {a : Act} {w : World} {K : Act → World → Prop} {Q : Exit → Act → World → Prop} {E : Prop} (hgd : o.guard = none) (s x : Operand)
    (ho : o.op = .call { callee := .builtin .append, args := #[s, x], argTypes := #[30, 9] }) (base : Nat) (v : Value) (l : List Nat) (hs : a.eval s = v) (hown : Own base w v l)
    (st : ByteArray) (hx : a.eval x = .string st) (hl : l.length + st.size ≤ 100000000000) (hbase : base ≤ w.heap.size)
    (h : ∀ v' w', Own base w' v' (l ++ sb st) → Kept base w w' → K (a.put o.dst v') w') : if Region.wanted o (yielded ops a.tmps) = true then Oper.wp Tryd.prog o a w K Q else E := by
  have hw : Region.wanted o (yielded ops a.tmps) = true := by simp [Region.wanted, hgd]
  rw [if_pos hw]
  obtain ⟨i0, hi, hz0, hz1, hz2⟩ := info_parts Tryd.info5
  obtain ⟨v', w', hr, h2, h3, h4⟩ := Lib.run_append_own_string (P := Tryd.prog) w base 30 9 o.type 5 i0 Tryd.underlying30 Tryd.underlying9 hi hz0 hz1 hz2 v l.length (bs l) hown st (by unfold maxLen; omega) (by omega) hbase
  unfold Oper.wp
  simp [execOp, ho, resolve, invoke, builtin, hs, hx, hr, Result.andThen]
  refine h v' w' ?_ (Kept.of_grown hown h3)
  show w'.ownsRow base 5 1 v' (l ++ sb st).length (bs (l ++ sb st))
  rw [List.length_append, bs_append, sb_length, bs_sb]; exact h2

/-- The box of a manifest, and that nothing else has turned. -/
def Boxm (w0 w : World) (c : Array Value) : Prop := BoxT 57 w w0.heap.size c ∧ Kept w0.heap.size w0 w
theorem Boxm.kept {w0 w w' : World} {c : Array Value} (h : Boxm w0 w c) (hk : Kept w0.heap.size w w') : Boxm w0 w' c := ⟨h.1.kept hk (by decide), h.2.trans hk⟩
theorem Boxm.alloc {w0 w : World} {c : Array Value} (h : Boxm w0 w c) (o : Obj) : Boxm w0 (w.alloc o) c := ⟨h.1.alloc _, h.2.alloc _⟩
theorem Boxm.drew {w0 w : World} {c : Array Value} (h : Boxm w0 w c) : Boxm w0 w.drew c := ⟨h.1, h.2.drew⟩
theorem Boxm.new (w : World) (c : Array Value) : Boxm w (w.alloc (.cells c 57)) c := ⟨BoxT.new _ _ _, (Kept.refl _ _).alloc _⟩
theorem Boxm.size {w0 w : World} {c : Array Value} (h : Boxm w0 w c) : w0.heap.size ≤ w.heap.size := by have := h.1.lt; omega
theorem Boxm.reads {w0 w : World} {c0 c1 c2 : Value} (h : Boxm w0 w #[c0, c1, c2]) :
    (w.cell? ⟨w0.heap.size, 0, none⟩ = some c0 ∧ w.cell? ⟨w0.heap.size, 1, none⟩ = some c1 ∧ w.cell? ⟨w0.heap.size, 2, none⟩ = some c2) ∧ Boxm w0 w #[c0, c1, c2] := ⟨h.1.cells3, h⟩
theorem Boxm.elem {w0 w : World} {c0 c1 c2 : Value} {b j : Nat} {u : Value} (hb : b < w0.heap.size) (hc : w0.cell? ⟨b, j, none⟩ = some u) (h : Boxm w0 w #[c0, c1, c2]) :
    (w.cell? ⟨w0.heap.size, 2, none⟩ = some c2 ∧ w.cell? ⟨b, j, none⟩ = some u) ∧ Boxm w0 w #[c0, c1, c2] :=
  ⟨⟨h.1.cells3.2.2, (World.cell?_of_block (h.2.block b hb (.inl hb))).trans hc⟩, h⟩

set_option maxHeartbeats 2000000 in
set_option maxRecDepth 100000 in
theorem refManifest_any (n ep : Int) (vs : Value) (ss : List ByteArray) (w : World) (h1 : 0 ≤ n) (h2 : 0 ≤ ep) (hsz : ∀ s ∈ ss, s.size ≤ 9223372036854775807) (hseg : SSeg w.heap.size w vs ss) :
    Calls Tryd.prog 23 #[.agg #[.int .u64 n, .int .u64 ep, vs]] w (WPost w (mEr ss) (mOut n ep ss)) := by
  have HSS : Hid (SSeg w.heap.size w vs ss) := hseg
  have HSZ : Hid (∀ s ∈ ss, s.size ≤ 9223372036854775807) := hsz
  obtain ⟨ao, cap, rfl, hlm, h4⟩ := hseg
  have H4 : Hid (ss = [] ∨ ∃ b off, ao = some ⟨b, off, none⟩ ∧ b < w.heap.size ∧ ∀ (i : Nat) (s : ByteArray), ss[i]? = some s → w.cell? ⟨b, off + i, none⟩ = some (.string s)) := h4
  clear h4 hsz
  by_cases hlen : ss.length ≤ 65535
  · rcases H4.out with rfl | ⟨b, off, rfl, hbB, hcell⟩
    · clear H4 HSS HSZ
      simp only [List.length_nil] at *
      have hw0 : IntKind.u64.wrap 0 = 0 := by rw [IntKind.wrap_u64]; rfl
      go_enter Tryd.func23, Tryd.ntmps23
      go_wp2_with fail
      go_region_held3 (fun w' => (w'.cell? ⟨w.heap.size, 0, none⟩ = some (.int .u64 n) ∧ w'.cell? ⟨w.heap.size, 1, none⟩ = some (.int .u64 ep) ∧ w'.cell? ⟨w.heap.size, 2, none⟩ = some (.slice ao 0 cap)) ∧ Boxm w w' #[.int .u64 n, .int .u64 ep, .slice ao 0 cap])
        ((first | exact Boxm.reads (by assumption) | exact Boxm.reads (Boxm.drew (Boxm.new _ _))))
        (first | (go_at_call 41; refine (put_of (base := w.heap.size) (by first | assumption | exact Own.nil _ _) (by first | exact Boxm.size (by assumption) | (simp; omega) | simp) (by simp [be_length]) (by omega) (by omega) (by omega)).mono ?_; rintro e w1 ⟨v1, rfl, ho1, hk1⟩; have bx := Boxm.kept (And.right (by assumption)) hk1))
      have ho : Own w.heap.size w1 v1 (mOut n ep []) := by simpa [mOut, mfits, fitsN, manb, namesb, hw0] using ho1
      obtain ⟨c0, c1, c2⟩ := bx.1.cells3
      have hbel := bx.2.below (Nat.le_refl _)
      clear ho1 hk1 bx
      go_wp2
      refine wp_loop_rounds 1 ?_
      rw [rounds_succ]
      go_wp2
      go_ret2
      exact WPost.mk ho hbel
    · have hw : IntKind.u64.wrap (ss.length : Int) = ss.length := by rw [IntKind.wrap_u64]; omega
      have HC : Hid (∀ (i : Nat) (s : ByteArray), ss[i]? = some s → w.cell? ⟨b, off + i, none⟩ = some (.string s)) := hcell
      clear hcell H4 HSS
      go_enter Tryd.func23, Tryd.ntmps23
      go_wp2_with fail
      go_region_held3 (fun w' => (w'.cell? ⟨w.heap.size, 0, none⟩ = some (.int .u64 n) ∧ w'.cell? ⟨w.heap.size, 1, none⟩ = some (.int .u64 ep) ∧ w'.cell? ⟨w.heap.size, 2, none⟩ = some (.slice (some ⟨b, off, none⟩) ss.length cap)) ∧ Boxm w w' #[.int .u64 n, .int .u64 ep, .slice (some ⟨b, off, none⟩) ss.length cap])
        ((first | exact Boxm.reads (by assumption) | exact Boxm.reads (Boxm.drew (Boxm.new _ _))))
        (first | (go_at_call 41; refine (put_of (base := w.heap.size) (by first | assumption | exact Own.nil _ _) (by first | exact Boxm.size (by assumption) | (simp; omega) | simp) (by simp [be_length]) (by omega) (by omega) (by omega)).mono ?_; rintro e w1 ⟨v1, rfl, ho1, hk1⟩; have bx := Boxm.kept (And.right (by assumption)) hk1))
      obtain ⟨hd, hhd⟩ : ∃ hd : List Nat, hd = be 8 n.toNat ++ (be 8 ep.toNat ++ be 2 ss.length) := ⟨_, rfl⟩
      have HD : Hid (hd = be 8 n.toNat ++ (be 8 ep.toNat ++ be 2 ss.length)) := hhd
      have hdl : hd.length = 18 := by rw [hhd]; simp [be_length]
      have HO : Hid (Own w.heap.size w1 v1 hd) := by
        show Own _ _ _ _
        rw [hhd]; simpa [hw] using ho1
      have HBX : Hid (Boxm w w1 #[.int .u64 n, .int .u64 ep, .slice (some ⟨b, off, none⟩) ss.length cap]) := bx
      clear ho1 hk1 bx hhd
      go_wp2
      go_loopw [4, 5] (fun v i wr => ∃ k : Nat, k ≤ ss.length ∧ i = .int .i64 k ∧ Hid (fitsN (ss.take k) = true) ∧ Own w.heap.size wr v (hd ++ namesb (ss.take k)) ∧ Hid (Boxm w wr #[.int .u64 n, .int .u64 ep, .slice (some ⟨b, off, none⟩) ss.length cap])) (fun _ i _ => ss.length - (intOf i).toNat)
      case atStart => exact ⟨0, Nat.zero_le _, rfl, rfl, by simpa [namesb] using HO.out, HBX⟩
      case round =>
        obtain ⟨k, hk, rfl, HF, hok, HB⟩ := hrel
        clear HO HBX
        obtain ⟨c0, c1, c2⟩ := HB.out.1.cells3
        by_cases hlt : k < ss.length
        · obtain ⟨s, hs⟩ : ∃ s : ByteArray, ss[k]? = some s := ⟨_, List.getElem?_eq_getElem hlt⟩
          have hcw := HC.out k s hs
          have HCW : Hid (w.cell? ⟨b, off + k, none⟩ = some (.string s)) := hcw
          have hc : wr.cell? ⟨b, off + k, none⟩ = some (.string s) := (Boxm.elem hbB hcw HB.out).1.2
          have hss := HSZ.out s (List.mem_of_getElem? hs)
          have HS : Hid (ss[k]? = some s) := hs
          clear hs hcw
          by_cases h32 : 32 < s.size
          · have hm : mfits ss = false := by
              unfold mfits fitsN
              rw [Bool.and_eq_false_iff]; right
              rw [List.all_eq_false]
              exact ⟨s, List.mem_of_getElem? HS.out, by simp; omega⟩
            have HP : Hid (WPost w (mEr ss) (mOut n ep ss) (.returned (.tuple #[.slice none 0 0, .int .i64 12])) wr) := by
              show WPost _ _ _ _ _
              unfold mEr mOut; rw [hm]
              exact WPost.mk (Own.nil _ _) (HB.out.2.below (Nat.le_refl _))
            clear hm hok
            go_wp2
            go_ret2
            exact HP.out
          · have hlen2 : (namesb (ss.take k)).length ≤ 33 * k := by
              have := namesb_len (ss.take k) (fun t ht => by have := List.all_eq_true.1 HF.out t ht; simpa using this)
              rw [List.length_take] at this
              omega
            have HOK : Hid (Own w.heap.size wr _ (hd ++ namesb (ss.take k))) := hok
            clear hok
            have hw8 : IntKind.u8.wrap (s.size : Int) = s.size := by rw [IntKind.wrap_u8]; omega
            clear c0 c1
            go_wp2_with fail
            go_region_held3 (fun w' => (w'.cell? ⟨w.heap.size, 2, none⟩ = some (.slice (some ⟨b, off, none⟩) ss.length cap) ∧ w'.cell? ⟨b, off + k, none⟩ = some (.string s)) ∧ Boxm w w' #[.int .u64 n, .int .u64 ep, .slice (some ⟨b, off, none⟩) ss.length cap])
              ((first | exact Boxm.elem hbB HCW.out (by assumption) | exact Boxm.elem hbB HCW.out (Boxm.drew HB.out) | exact Boxm.elem hbB HCW.out (Boxm.drew (Boxm.alloc HB.out _)) | exact Boxm.elem hbB HCW.out (Boxm.alloc (And.right (by assumption)) _)))
              (first
                | (refine step_str rfl _ _ rfl w.heap.size _ _ rfl (by assumption) s rfl (by simp only [List.length_append, List.length_singleton]; omega) (by exact Boxm.size (And.right (by assumption))) ?_; intro v1 w1 ho1 hk1; have bx := Boxm.kept (And.right (by assumption)) hk1)
                | (refine step_own rfl _ _ rfl w.heap.size _ _ rfl (HOK.out.alloc _).drew ⟨wr.heap.size, 0, none⟩ 1 [s.size] rfl (one_cell wr s.size) (by simp only [List.length_append, List.length_singleton]; omega) (by exact Boxm.size (And.right (by assumption))) ?_; intro v1 w1 ho1 hk1; have bx := Boxm.kept (And.right (by assumption)) hk1))
            have HO3 : Hid (Own w.heap.size w1 v1 (hd ++ namesb (ss.take (k + 1)))) := by
              show Own _ _ _ _
              rw [namesb_snoc ss k s HS.out]
              simpa [nameb] using ho1
            have HB3 : Hid (Boxm w w1 #[.int .u64 n, .int .u64 ep, .slice (some ⟨b, off, none⟩) ss.length cap]) := bx
            have HF3 : Hid (fitsN (ss.take (k + 1)) = true) := by
              show fitsN _ = true
              rw [all_take_succ ss k s HS.out, HF.out]; simp; omega
            clear ho1 hk1 bx hc c2
            go_wp2
            go_roundw
            case rel => exact ⟨k + 1, by omega, by go_num, HF3, HO3.out, HB3⟩
            case measure => simp [intOf]; omega
        · have hm : mfits ss = true := by
            have := HF.out
            rw [List.take_of_length_le (by omega)] at this
            unfold mfits; rw [this, decide_eq_true hlen]; rfl
          have HP : ∀ v : Value, Own w.heap.size wr v (hd ++ namesb (ss.take k)) → WPost w (mEr ss) (mOut n ep ss) (.returned (.tuple #[v, .int .i64 0])) wr := by
            intro v ho
            unfold mEr mOut; rw [hm]
            refine WPost.mk ?_ (HB.out.2.below (Nat.le_refl _))
            rw [List.take_of_length_le (by omega), HD.out] at ho
            simpa [manb] using ho
          have HP' := HP _ hok
          have HPH : Hid (WPost w (mEr ss) (mOut n ep ss) (.returned (.tuple #[_, .int .i64 0])) wr) := HP'
          clear HP HP' hm hok
          go_wp2
          go_ret2
          exact HPH.out
  · have hm : mfits ss = false := by unfold mfits; rw [decide_eq_false hlen]; simp
    have e1 : mEr ss = 12 := by unfold mEr; rw [hm]; rfl
    have e2 : mOut n ep ss = [] := by unfold mOut; rw [hm]; rfl
    rw [e1, e2]
    clear hm e1 e2 H4 HSZ HSS
    go_enter Tryd.func23, Tryd.ntmps23
    go_wp2
    go_ret2
    exact WPost.mk (Own.nil _ _) ((Below.refl _ _).alloc (Nat.le_refl _) _)
end Go.Proofs.YtaajjejgjnlbgaaDoor
