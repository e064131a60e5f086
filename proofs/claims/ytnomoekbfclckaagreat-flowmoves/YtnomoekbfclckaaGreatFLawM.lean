/-
  The law FlowMoves, walked.
-/
import Derived.Test.YtnomoekbfclckaaGreatFKnown
import Derived.Test.YtnomoekbfclckaaGreatFLawS
import Derived.Test.YtnomoekbfclckaaGreatFPure2
import Derived.Laws.BytesArg
namespace Go.Proofs.YtnomoekbfclckaaGreat
open Go.RowKit

/-- The i-th string of the law. -/
def bs (i : Nat) : ByteArray := strOfNums [(i : Int) % 256, (i : Int) / 256]
def strs (a : Nat) : Nat → List ByteArray
  | 0 => []
  | n + 1 => bs a :: strs (a + 1) n
theorem strs_len (a n : Nat) : (strs a n).length = n := by
  induction n generalizing a with
  | zero => rfl
  | succ n ih => simp [strs, ih]
theorem strs_app (a n : Nat) : strs a n ++ [bs (a + n)] = strs a (n + 1) := by
  induction n generalizing a with
  | zero => simp [strs]
  | succ n ih =>
    have h1 := ih (a + 1)
    rw [show a + 1 + n = a + (n + 1) by omega] at h1
    rw [show strs a (n + 1) = bs a :: strs (a + 1) n from rfl, List.cons_append, h1]
    rfl
theorem conv_bs (w : World) (i : Nat) : (convert 29 9 (.slice (some ⟨w.heap.size, 0, none⟩) 2 2)).run Tryz.prog (w.alloc (.cells #[.int .u8 ((i : Int) % 256), .int .u8 ((i : Int) / 256)] 5)) = .ok (.string (bs i)) (w.alloc (.cells #[.int .u8 ((i : Int) % 256), .int .u8 ((i : Int) / 256)] 5)) := by
  have g : BoxT 5 (w.alloc (.cells #[.int .u8 ((i : Int) % 256), .int .u8 ((i : Int) / 256)] 5)) w.heap.size #[.int .u8 ((i : Int) % 256), .int .u8 ((i : Int) / 256)] := BoxT.new _ _ _
  refine run_convert_bytes_arg (P := Tryz.prog) _ 29 5 Tryz.underlying29 Tryz.underlying5 w.heap.size 0 2 2 [(i : Int) % 256, (i : Int) / 256] rfl (fun j hj => ?_) 9 Tryz.underlying9
  match j, hj with
  | 0, _ => exact (g.cellAt _).trans rfl
  | 1, _ => exact (g.cellAt _).trans rfl
theorem FlS.crl {W w : World} {K cr : Nat} {S : FS ByteArray} (H : FlS W w K cr S) : cr ≤ 64 := by obtain ⟨fp, ⟨_, h, _⟩, _⟩ := H; exact h
set_option maxHeartbeats 16000000 in
set_option maxRecDepth 100000 in
theorem FlowMoves_walk (w : World) (c y : Int) :
    Calls Tryz.prog 3 #[.int .i64 c, .int .i64 y] w fun e w' => e = .returned (.bool true) ∧ Below w.heap.size w w' := by
  have hknown := known_any w
  obtain ⟨m, hm, hm2⟩ : ∃ m : Nat, y % 300 = (m : Int) ∧ m < 300 := ⟨(y % 300).toNat, by omega, by omega⟩
  go_enter Tryz.func3, Tryz.ntmps3
  go_wp2_with fail
  refine hknown.mono ?_
  rintro e w1 ⟨rfl, hb1⟩
  clear hknown
  have HB1 := hide hb1
  clear hb1
  go_wp2_with fail
  go_at_call 5
  refine (Place_any w1 y 300 (by decide) (by decide)).mono ?_
  rintro r w1' ⟨rfl, rfl⟩
  rw [hm]
  clear hm
  go_wp2_with fail
  go_at_call 6
  refine (fNewS HB1.out c 1).mono ?_
  rintro r w2 ⟨K, rfl, h2⟩
  have hcr1 : 1 ≤ (min (max c 1) 64).toNat := by omega
  have hcr2 : (min (max c 1) 64).toNat ≤ 64 := by omega
  generalize (min (max c 1) 64).toNat = cr at *
  have H2 : Hid (FlS w w2 K cr (pNew 1) ∧ Nb 0 (pNew 1 : FS ByteArray) ∧ Ord cr (pNew 1 : FS ByteArray)) := ⟨h2, Nb.new 1, Ord.new cr 1⟩
  clear h2 HB1
  go_wp2_with fail
  go_loopw [6] (fun iv wr => ∃ (i : Nat) (S : FS ByteArray), i ≤ m ∧ iv = .int .i64 i ∧ Hid (FlS w wr K cr S ∧ Nb 0 S ∧ Ord cr S ∧ pAll S = strs 0 i)) (fun iv _ => m - (intOf iv).toNat)
  case atStart => exact ⟨0, _, Nat.zero_le _, rfl, H2.out.1, H2.out.2.1, H2.out.2.2, rfl⟩
  case round =>
    clear H2
    obtain ⟨i, S, hi, rfl, HI⟩ := hrel
    have hbl : S.back.length + S.mov.length + S.wait.length = i := by
      have h := congrArg List.length HI.out.2.2.2
      rwa [all_len, strs_len] at h
    by_cases hlt : i < m
    · have hcv := conv_bs wr i
      have hof := hide (fOfferS (HI.out.1.below ((Below.refl wr.heap.size wr).alloc (Nat.le_refl _) (.cells #[.int .u8 ((i : Int) % 256), .int .u8 ((i : Int) / 256)] 5))) (by omega) (bs i))
      go_wp2_with (first | (go_at_call 7; refine hof.out.mono ?_; rintro r w3 ⟨rfl, h3⟩; have H3 := hide h3; clear h3) | fail)
      go_roundw
      case rel => exact ⟨i + 1, _, by omega, by go_num, H3.out, HI.out.2.1.offer _, HI.out.2.2.1.offer _, by rw [all_offer, HI.out.2.2.2, ← strs_app, Nat.zero_add]⟩
      case measure => simp [intOf]; omega
    · have him : i = m := by omega
      have HJ : Hid (FlS w wr K cr S ∧ Nb 0 S ∧ Ord cr S ∧ pAll S = strs 0 (m - 0)) := by
        have h := HI.out
        rw [him] at h
        exact h
      clear HI hbl
      go_wp2_with fail
      go_loopw [7] (fun iv wr => ∃ (k : Nat) (S : FS ByteArray), k ≤ m ∧ iv = .int .i64 k ∧ Hid (FlS w wr K cr S ∧ Nb (2 * k) S ∧ Ord cr S ∧ pAll S = strs k (m - k))) (fun iv _ => m - (intOf iv).toNat)
      case atStart => exact ⟨0, S, Nat.zero_le _, rfl, HJ.out⟩
      case round =>
        clear HJ hlt hi him
        obtain ⟨k, S, hk, rfl, HI⟩ := hrel
        have hbl : S.back.length + S.mov.length + S.wait.length = m - k := by
          have h := congrArg List.length HI.out.2.2.2
          rwa [all_len, strs_len] at h
        by_cases hlt : k < m
        · obtain ⟨hF, hN1, hO1, hA1⟩ := HI.out
          have hsd := hide (fSendS hF (by omega) (by have := hN1.1; omega) hN1.2.1.1 (by have := hN1.2.1.2; omega))
          have hN2 := hN1.send hcr2
          obtain ⟨hO2, hA2⟩ := hO1.send
          have hN3 := hN2.del (cr := cr)
          obtain ⟨hO3, hA3, _⟩ := hO2.del_any
          rw [hA2, hA1] at hA3
          have hcm : (pDel cr (pSend cr S).1).1.wait ≠ [] := comes hO1 hcr1 (by rw [hA1, show m - k = (m - k - 1) + 1 by omega]; simp [strs])
          have hq3 := hN2.1
          have hq4 := hN2.2.2
          obtain ⟨S2, b2, hp2⟩ : ∃ S2 b2, pSend cr S = (S2, b2) := ⟨_, _, rfl⟩
          rw [hp2] at hsd hN3 hO3 hA3 hcm hq3 hq4
          dsimp only at hsd hN3 hO3 hA3 hcm hq3 hq4
          obtain ⟨S3, r3, hp3⟩ : ∃ S3 r3, pDel cr S2 = (S3, r3) := ⟨_, _, rfl⟩
          rw [hp3] at hN3 hO3 hA3 hcm
          dsimp only at hN3 hO3 hA3 hcm
          cases hw : S3.wait with
          | nil => exact absurd hw hcm
          | cons z T =>
            have hA := hA3
            rw [all_take hw, show m - k = (m - k - 1) + 1 by omega] at hA
            have hz : z = bs k := (List.cons.inj hA).1
            have hA4 : pAll (pTake S3) = strs (k + 1) (m - (k + 1)) := by
              rw [(List.cons.inj hA).2, show m - (k + 1) = m - k - 1 by omega]
            subst hz
            have HS3 := hide (And.intro hN3 (And.intro hO3 (And.intro hA4 (And.intro hw hp3))))
            clear hF hO1 hA1 hN1 hN2 hO2 hA2 hN3 hO3 hA3 HI hcm hp2 hp3 hA hA4 hw
            go_wp2_with (first
              | (go_at_call 8; refine hsd.out.mono ?_; rintro r w7 ⟨rfl, h7⟩; have hdl := fDeliverS h7 (by omega) hq4.1 (by omega); rw [HS3.out.2.2.2.2] at hdl; have hdl := hide hdl; clear h7)
              | (go_at_call 9; refine hdl.out.mono ?_; rintro r w8 ⟨rfl, h8⟩; have H8 := hide h8; clear h8)
              | (go_at_call 10; refine (fTakeS H8.out HS3.out.2.2.2.1).mono ?_; rintro r w9 ⟨rfl, h9⟩; have H9 := hide h9; have hcv := conv_bs w9 k; clear h9)
              | fail)
            go_roundw
            case rel => exact ⟨k + 1, pTake S3, by omega, by go_num, H9.out.below ((Below.refl w9.heap.size w9).alloc (Nat.le_refl _) _), HS3.out.1.take.mono (by omega), HS3.out.2.1.take, HS3.out.2.2.1⟩
            case measure => simp [intOf]; omega
        · have hS0 : S.wait = [] := List.length_eq_zero_iff.1 (by omega)
          have hB0 : S.back.length = 0 := by omega
          have htk := hide (fTakeNS HI.out.1 hS0)
          have hbk := fBacklogS HI.out.1
          rw [hB0] at hbk
          have hbk := hide hbk
          go_wp2_with (first
            | (go_at_call 10; refine htk.out.mono ?_; rintro r w7 ⟨rfl, rfl⟩)
            | (go_at_call 11; refine hbk.out.mono ?_; rintro r w7 ⟨rfl, rfl⟩)
            | fail)
          go_ret
          exact ⟨rfl, HI.out.1.bel⟩
end Go.Proofs.YtnomoekbfclckaaGreat
