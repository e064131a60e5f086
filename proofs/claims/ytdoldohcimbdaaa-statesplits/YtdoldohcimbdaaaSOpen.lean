/-
  bytes.Equal, Open.
-/
import Derived.Test.YtdoldohcimbdaaaSRead
import Derived.Laws.BytesArg
namespace Go.Proofs.Ytdoldohcimbdaaa
open Go.RowKit

def sOf (l : List Nat) : ByteArray := strOfNums (l.map fun x : Nat => (x : Int))
theorem sOf_inj : ∀ {l m : List Nat}, (∀ x ∈ l, x < 256) → (∀ x ∈ m, x < 256) → sOf l = sOf m → l = m := by
  intro l m hl hm h
  have h1 : (sOf l).data.toList = (sOf m).data.toList := by rw [h]
  unfold sOf at h1
  rw [strOfNums_data, strOfNums_data, List.map_map, List.map_map] at h1
  clear h
  induction l generalizing m with
  | nil => cases m with
    | nil => rfl
    | cons y m => simp at h1
  | cons x l ih => cases m with
    | nil => simp at h1
    | cons y m =>
      simp only [List.map_cons, List.cons.injEq, Function.comp] at h1
      have e1 := congrArg UInt8.toNat h1.1
      have hx := hl x (List.mem_cons_self ..)
      have hy := hm y (List.mem_cons_self ..)
      simp [UInt8.toNat_ofNat', Nat.mod_eq_of_lt hx, Nat.mod_eq_of_lt hy] at e1
      rw [e1, ih (fun z hz => hl z (List.mem_cons_of_mem _ hz)) (fun z hz => hm z (List.mem_cons_of_mem _ hz)) h1.2]
theorem sOf_eq {l m : List Nat} (hl : ∀ x ∈ l, x < 256) (hm : ∀ x ∈ m, x < 256) : ((sOf l).toList == (sOf m).toList) = decide (l = m) := by
  rw [ByteArray.toList_eq, ByteArray.toList_eq]
  by_cases h : l = m
  · subst h; simp
  · rw [decide_eq_false h]
    rw [beq_eq_false_iff_ne]
    exact fun e => h (sOf_inj hl hm (by
      have : (sOf l).data = (sOf m).data := Array.toList_inj.1 e
      cases h1 : sOf l; cases h2 : sOf m
      rw [h1, h2] at this
      exact congrArg _ this))
theorem run_str {w : World} {v : Value} {l : List Nat} (h : LSeg 1 u8cs w.heap.size w v l) (hne : l ≠ []) : (convert 35 9 v).run Try.prog w = .ok (.string (sOf l)) w := by
  obtain ⟨ao, cap, rfl, hl, hc⟩ := h
  rcases hc with hc | ⟨b, off, rfl, hb, hc⟩
  · exact absurd hc hne
  · refine run_convert_bytes_arg (P := Try.prog) w 35 5 Try.underlying35 (by kernel_rfl) b off l.length cap (l.map fun x : Nat => (x : Int)) (by simp) (fun i hi => ?_) 9 (by kernel_rfl)
    have hx : l[i]? = some l[i] := List.getElem?_eq_getElem hi
    have h1 := hc i _ hx 0 _ rfl
    simp only [Nat.mul_one, Nat.add_zero] at h1
    rw [h1]
    simp [List.getD, hx]
set_option maxHeartbeats 4000000 in
set_option maxRecDepth 100000 in
theorem Equal_any {w : World} {v1 v2 : Value} {l1 l2 : List Nat} (h1 : LSeg 1 u8cs w.heap.size w v1 l1) (h2 : LSeg 1 u8cs w.heap.size w v2 l2) (n1 : l1 ≠ []) (n2 : l2 ≠ []) (b1 : ∀ x ∈ l1, x < 256) (b2 : ∀ x ∈ l2, x < 256) :
    Calls Try.prog 48 #[v1, v2] w fun e w' => e = .returned (.bool (decide (l1 = l2))) ∧ w' = w := by
  have r1 := run_str h1 n1
  have r2 := run_str h2 n2
  have he := sOf_eq b1 b2
  generalize sOf l1 = S1 at *
  generalize sOf l2 = S2 at *
  generalize decide (l1 = l2) = D at *
  clear h1 h2 n1 n2 b1 b2
  go_enter Try.func48, Try.ntmps48
  go_wp2_with fail
  go_ret
  exact ⟨rfl, rfl⟩
theorem be_byte : ∀ (k n : Nat), ∀ x ∈ be k n, x < 256
  | 0, _, x, h => by cases h
  | k + 1, n, x, h => by
    simp only [be, List.mem_cons] at h
    rcases h with rfl | h
    · exact Nat.mod_lt _ (by omega)
    · exact be_byte k n x h
theorem wrB_byte (L : List Pn) : ∀ x ∈ wrB L, x < 256 := by
  intro x hx
  unfold wrB at hx
  rw [List.mem_append, List.mem_flatMap] at hx
  rcases hx with hx | ⟨y, _, hx⟩
  · exact be_byte _ _ x hx
  · unfold wb sbe at hx
    simp only [List.mem_append] at hx
    rcases hx with ((hx | hx) | hx) | hx <;> exact be_byte _ _ x hx
theorem wrap64_in (x : Int) : In64 (wrap64 x) := by
  unfold In64 wrap64
  omega
theorem g8_in (l : List Nat) (j : Nat) : In64 (g8 l j) := wrap64_in _
theorem rdP_ok (l : List Nat) : ∀ x ∈ rdP l, PnOk x := by
  intro x hx
  unfold rdP at hx
  rw [List.mem_map] at hx
  obtain ⟨i, _, rfl⟩ := hx
  exact ⟨g8_in _ _, g8_in _ _, g8_in _ _, g8_in _ _⟩
/-- What Open answers. -/
def OpPost (w : World) (kd size slide ag : Int) (l : List Nat) (e : Ending) (w' : World) : Prop := Below w.heap.size w w' ∧
  ((e = .returned (.tuple #[.pointer none, .int .i64 120]) ∧ (¬ rdOk l ∨ ∃ M, Comes (sess kd) (jn ag) (rdP l) M ∧ wrB (srt M) ≠ l)) ∨
    (rdOk l ∧ ∃ s fp M, e = .returned (.tuple #[.pointer (some ⟨s, 0, none⟩), .int .i64 0]) ∧ SA w' s kd size slide ag fp M ∧ (∀ i, fp i → w.heap.size ≤ i) ∧ Comes (sess kd) (jn ag) (rdP l) M ∧ wrB (srt M) = l))
def ByS (w : World) (v : Value) (l : List Nat) : Prop := ∃ ao cap, v = .slice ao l.length cap ∧ (l.length < 4 ∨ ∃ b off, ao = some ⟨b, off, none⟩ ∧ BSeg w.heap.size w b off cap l)
theorem ByS.below {w w' : World} {v : Value} {l : List Nat} (h : ByS w v l) (hb : Below w.heap.size w w') : ByS w' v l := by
  obtain ⟨ao, cap, rfl, h⟩ := h
  refine ⟨ao, cap, rfl, ?_⟩
  rcases h with h | ⟨b, off, rfl, h1⟩
  · exact .inl h
  · exact .inr ⟨b, off, rfl, (h1.below hb).mono hb.size⟩
theorem read_all {w : World} {v : Value} {l : List Nat} (h : ByS w v l) (hn : l.length ≤ 640000) : Calls Try.prog 47 #[v] w (RdPost w l) := by
  obtain ⟨ao, cap, rfl, h⟩ := h
  by_cases h4 : l.length < 4
  · exact read_short w ao cap l h4
  · rcases h with h | ⟨b, off, rfl, h⟩
    · exact absurd h h4
    · exact read_any h (by omega) hn
theorem read_no {w : World} {v : Value} {l : List Nat} (h : ByS w v l) (hn : l.length ≤ 640000) (hno : ¬ rdOk l) : Calls Try.prog 47 #[v] w fun e w' => e = .returned (.tuple #[.slice none 0 0, .bool false]) ∧ Below w.heap.size w w' :=
  (read_all h hn).mono fun _ _ h => ⟨h.2.elim (fun h => h.2) (fun h => absurd h.1 hno), h.1⟩
theorem read_yes {w : World} {v : Value} {l : List Nat} (h : ByS w v l) (hn : l.length ≤ 640000) (hok : rdOk l) : Calls Try.prog 47 #[v] w fun e w' => ∃ u, e = .returned (.tuple #[u, .bool true]) ∧ OwnL 43 4 Pn.cs w.heap.size w' u (rdP l) ∧ Below w.heap.size w w' :=
  (read_all h hn).mono fun _ _ h => h.2.elim (fun h => absurd hok h.1) (fun ⟨_, u, h1, h2⟩ => ⟨u, h1, h2, h.1⟩)
theorem BSeg.seg {B : Nat} {w : World} {b off cap : Nat} {l : List Nat} (h : BSeg B w b off cap l) (hB : B ≤ w.heap.size) (hl : l.length ≤ 140737488355328) : LSeg 1 u8cs w.heap.size w (.slice (some ⟨b, off, none⟩) l.length cap) l := by
  refine ⟨some ⟨b, off, none⟩, cap, rfl, hl, .inr ⟨b, off, rfl, Nat.lt_of_lt_of_le h.1 hB, fun i x hx q u hu => ?_⟩⟩
  have h1 := h.2.2.2.2 _ x hx
  match q, hu with
  | 0, hu =>
    simp [u8cs] at hu
    subst hu
    simp at *
    exact h1
set_option maxHeartbeats 4000000 in
set_option maxRecDepth 100000 in
theorem Open_any {w : World} {v : Value} {l : List Nat} (kd size slide ag : Int) (h : ByS w v l) (hn : l.length ≤ 640000) (hse : kd = 3 → ∀ x ∈ rdP l, x.f < x.t) :
    Calls Try.prog 25 #[.agg #[.int .i64 kd, .int .i64 size, .int .i64 slide], .int .i64 ag, v] w (OpPost w kd size slide ag l) := by
  have hb1 := below_box w (.cells #[.int .i64 kd, .int .i64 size, .int .i64 slide] 23)
  obtain ⟨W1, hW1⟩ : ∃ W1, W1 = w.alloc (.cells #[.int .i64 kd, .int .i64 size, .int .i64 slide] 23) := ⟨_, rfl⟩
  have hk1 : BoxT 23 W1 w.heap.size #[.int .i64 kd, .int .i64 size, .int .i64 slide] := by rw [hW1]; exact BoxT.new _ _ _
  rw [← hW1] at hb1
  by_cases hok : rdOk l
  · have HRD := hide (read_yes (h.below hb1) hn hok)
    obtain ⟨ao, cap, rfl, hc⟩ := h.below hb1
    have h4 : 4 ≤ l.length := hok.1
    have hcn : rdN l ≤ 20000 := by have := hok.2; omega
    obtain ⟨vb, vo, rfl, hbs⟩ : ∃ b off, ao = some ⟨b, off, none⟩ ∧ BSeg W1.heap.size W1 b off cap l := by
      rcases hc with hc | hc
      · omega
      · exact hc
    have HV := hide hbs
    have HB1 := hide hb1
    have HSE := hide hse
    have HOK := hide hok
    have HH4 := hide h4
    have HCN := hide hcn
    have HK1 := hide hk1
    have HLN : Hid (l.length ≤ 140737488355328) := Nat.le_trans hn (by omega)
    clear h hb1 hse hn hok hc hbs h4 hcn hk1
    have HNW := hide (fun W => New_any W kd size slide ag)
    go_enter Try.func25, Try.ntmps25
    go_upto_region 1 with fail
    rw [← hW1]
    clear hW1
    go_upto_region 4 with (first | (go_at_call 47; refine HRD.out.mono ?_; rintro e w2 ⟨u, rfl, o2, b2⟩; have O2 := hide o2; have B2 := hide (HB1.out.trans (b2.mono HB1.out.size)); have B2' := hide b2; clear o2 b2) | fail)
    have k2 : BoxT 23 w2 w.heap.size #[.int .i64 kd, .int .i64 size, .int .i64 slide] := BoxT.below (t := 23) HK1.out B2'.out
    obtain ⟨k0, k1, k3⟩ := k2.cells3
    clear k2
    go_upto_region 5 with (first | (go_at_call 10; refine (HNW.out _).mono ?_; rintro e w3 ⟨s, fp, rfl, s3, f3, b3⟩; have S3 := hide s3; have F3 := hide f3; have B3 := hide b3; clear s3 f3 b3) | fail)
    have HLD := hide (Load_any S3.out ((O2.out.below B3.out).seg Pn.cs_len (by rw [rdP_len]; have := HCN.out; omega)) (fun g e h => by have h1 := F3.out g h; have h2 := O2.out.lt g e; omega) (fun x hx => ⟨rdP_ok l x hx, fun e => HSE.out e x hx⟩) (by rw [rdP_len]; have := HCN.out; omega))
    have hF3 : ∀ i, fp i → w.heap.size ≤ i := fun i hi => Nat.le_trans B2.out.size (F3.out i hi)
    have B23 := hide (B2.out.trans (B3.out.mono B2.out.size))
    have HV3 := hide (HV.out.below (B2'.out.trans (B3.out.mono B2'.out.size)))
    have HF := hide hF3
    have HFW : Hid (∀ i, fp i → W1.heap.size ≤ i) := fun i hi => Nat.le_trans B2'.out.size (F3.out i hi)
    have HZ3 : Hid (W1.heap.size ≤ w3.heap.size) := Nat.le_trans B2'.out.size B3.out.size
    clear hF3 HNW HRD S3 F3 B3 B2 B2' O2
    go_upto_region 6 with (first | (go_at_call 21; refine HLD.out.mono ?_; rintro e w4 ⟨rfl, fp', M', s4, f4, c4⟩; have S4 := hide s4; have F4 := hide f4; have C4 := hide c4; clear s4 f4 c4) | fail)
    have hM4 : M'.length ≤ 20000 := by
      have h1 := C4.out.1.len
      rw [rdP_len] at h1
      have := HCN.out
      omega
    have hB4 : Below w.heap.size w w4 := B23.out.trans (F4.out.below B23.out.size HF.out)
    have hV4 : BSeg W1.heap.size w4 vb vo cap l := HV3.out.below (F4.out.below HZ3.out HFW.out)
    have hZ4 : W1.heap.size ≤ w4.heap.size := Nat.le_trans HZ3.out F4.out.size
    have HVB : Hid (∀ x ∈ l, x < 256) := HV.out.2.2.2.1
    have hne1 : wrB (srt M') ≠ [] := fun e => by have := congrArg List.length e; rw [wrB_len] at this; simp at this
    have hne2 : l ≠ [] := fun e => by have := HH4.out; rw [e] at this; simp at this
    have hbl : (wrB (srt M')).length ≤ 140737488355328 := by rw [wrB_len, srt_len]; omega
    have HEQ : Hid (∀ (D : Bool), decide (wrB (srt M') = l) = D → ∀ w5 u, OwnL 5 1 u8cs w4.heap.size w5 u (wrB (srt M')) → Below w4.heap.size w4 w5 → Calls Try.prog 48 #[u, .slice (some ⟨vb, vo, none⟩) l.length cap] w5 fun e w' => e = .returned (.bool D) ∧ w' = w5) := fun D hD w5 u h1 h2 => by
      rw [← hD]
      exact Equal_any (h1.seg u8cs_len hbl) ((hV4.below (h2.mono hZ4)).seg (Nat.le_trans hZ4 h2.size) HLN.out) hne1 hne2 (wrB_byte _) HVB.out
    have HBY := hide (Bytes_any S4.out hM4)
    have HF4 : Hid (∀ i, fp' i → w.heap.size ≤ i) := fun i hi => by
      rcases F4.out.sub i hi with h | h
      · exact HF.out i h
      · exact Nat.le_trans B23.out.size h
    have B4 := hide hB4
    have V4 := hide hV4
    clear hB4 hV4 hM4 HLD HV3 F4 HF B23
    clear hne1 hne2 hbl hZ4
    have HWB : Hid (∀ w5, Below w4.heap.size w4 w5 → Below w.heap.size w w5) := fun w5 h5 => B4.out.trans (h5.mono B4.out.size)
    by_cases he : wrB (srt M') = l
    · have HQ := hide (HEQ.out true (decide_eq_true he))
      have HE := hide he
      clear HEQ he
      go_wp2_with (first | (go_at_call 15; refine HBY.out.mono ?_; rintro e w5 ⟨u5, rfl, o5, b5⟩; have HQ5 := hide (HQ.out w5 u5 o5 b5); have B5 := hide b5; clear o5 b5) | (go_at_call 48; refine HQ5.out.mono ?_; rintro e w6 ⟨rfl, rfl⟩) | fail)
      exact bodyPost_ret (v := .tuple #[.pointer (some ⟨s, 0, none⟩), .int .i64 0]) (by simp [results, Try.results25, go_sem]) rfl ⟨HWB.out _ B5.out, .inr ⟨HOK.out, s, fp', M', rfl, S4.out.below B5.out, HF4.out, C4.out, HE.out⟩⟩
    · have HQ := hide (HEQ.out false (decide_eq_false he))
      have HE := hide he
      clear HEQ he
      go_wp2_with (first | (go_at_call 15; refine HBY.out.mono ?_; rintro e w5 ⟨u5, rfl, o5, b5⟩; have HQ5 := hide (HQ.out w5 u5 o5 b5); have B5 := hide b5; clear o5 b5) | (go_at_call 48; refine HQ5.out.mono ?_; rintro e w6 ⟨rfl, rfl⟩) | fail)
      exact bodyPost_ret (v := .tuple #[.pointer none, .int .i64 120]) (by simp [results, Try.results25, go_sem]) rfl ⟨HWB.out _ B5.out, .inl ⟨rfl, .inr ⟨M', C4.out, HE.out⟩⟩⟩
  · have HRD := hide (read_no (h.below hb1) hn hok)
    obtain ⟨vo, vc, rfl⟩ : ∃ vo vc, v = .slice vo l.length vc := by obtain ⟨a, c, e, _⟩ := h; exact ⟨a, c, e⟩
    have HB1 := hide hb1
    have HOK := hide hok
    clear h hb1 hk1 hse hn hok
    go_enter Try.func25, Try.ntmps25
    go_upto_region 1 with fail
    rw [← hW1]
    clear hW1
    go_wp2_with (first | (go_at_call 47; refine HRD.out.mono ?_; rintro e w2 ⟨rfl, b2⟩; have B2 := hide b2; clear b2) | fail)
    exact bodyPost_ret (v := .tuple #[.pointer none, .int .i64 120]) (by simp [results, Try.results25, go_sem]) rfl ⟨HB1.out.trans (B2.out.mono HB1.out.size), .inl ⟨rfl, .inl HOK.out⟩⟩
end Go.Proofs.Ytdoldohcimbdaaa
