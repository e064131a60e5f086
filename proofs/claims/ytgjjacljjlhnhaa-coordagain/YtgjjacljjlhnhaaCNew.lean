/-
  New.
-/
import Derived.Test.YtgjjacljjlhnhaaCTick
namespace Go.Proofs.Ytgjjacljjlhnhaa
open Go.RowKit

theorem mem_once (l : List Int) : ∀ x, x ∈ l → x ∈ once l := by
  have h : ∀ (l o : List Int) (x : Int), x ∈ o ∨ x ∈ l → x ∈ l.foldl (fun o x => if o.contains x then o else o ++ [x]) o := by
    intro l
    induction l with
    | nil => intro o x h; exact h.elim id (fun h => by cases h)
    | cons y l ih =>
      intro o x h
      rw [List.foldl_cons]
      refine ih _ x ?_
      rcases h with h | h
      · left; split
        · exact h
        · exact List.mem_append_left _ h
      · rcases List.mem_cons.1 h with rfl | h
        · left; split
          · rename_i hc; simpa using hc
          · exact List.mem_append_right _ (List.mem_singleton.2 rfl)
        · exact .inr h
  intro x hx
  exact h l [] x (.inr hx)
theorem cNew_eq (tasks sinks : List Int) (iv to_ : Int) : cNew tasks sinks iv to_ = ⟨bnd iv, bnd to_, bnd to_, 0, 0, 0, false, 0, 0, 0, once tasks, inn (once sinks) (once tasks), [], [], []⟩ := rfl
theorem inn_rev (l A : List Int) : inn l A.reverse = inn l A := List.filter_congr (fun x _ => cont_rev A x)
set_option maxHeartbeats 4000000 in
set_option maxRecDepth 100000 in
theorem New_any {w : World} {B1 B2 : Nat} {v1 v2 : Value} {tasks sinks : List Int} (h1 : LSeg 1 i64cs B1 w v1 tasks) (hB1 : B1 ≤ w.heap.size) (h2 : LSeg 1 i64cs B2 w v2 sinks) (hB2 : B2 ≤ w.heap.size) (n1 : tasks.length ≤ 400000) (n2 : sinks.length ≤ 400000) (t64 : ∀ x ∈ tasks, In64 x) (s64 : ∀ x ∈ sinks, In64 x) (iv to_ : Int) :
    Calls Try.prog 10 #[v1, v2, .int .i64 iv, .int .i64 to_] w fun r w' => ∃ k P, r = .returned (.pointer (some ⟨k, 0, none⟩)) ∧ CX w' k P (cNew tasks sinks iv to_) ∧ Below w.heap.size w w' ∧ ∀ i, Fp P k i → w.heap.size ≤ i := by
  rw [cNew_eq]
  have HS2 := hide (h2.mono hB2)
  have HE := hide (eachOnce_any h1 hB1 (by omega) t64)
  have HN2 := hide n2
  have HS64 := hide s64
  have HT : Hid (TS (once tasks) (inn (once sinks) (once tasks))) := hide ⟨fun x hx => t64 x (once_mem _ x hx), fun x hx => s64 x (once_mem _ x ((List.mem_filter.1 hx).1)), Nat.le_trans (once_len _) n1, Nat.le_trans (inn_len _ _) (Nat.le_trans (once_len _) n2)⟩
  have HND := hide (once_nodup tasks)
  have HND2 : Hid ((inn (once sinks) (once tasks)).Nodup) := hide (List.Nodup.sublist List.filter_sublist (once_nodup sinks))
  have HOL : Hid ((once sinks).length ≤ 1000000) := hide (Nat.le_trans (once_len _) (by omega))
  have HO64 : Hid (∀ x ∈ once sinks, In64 x) := hide (fun x hx => s64 x (once_mem _ x hx))
  clear h1 h2 hB1 hB2 n1 n2 t64 s64
  generalize once tasks = T at *
  generalize hS0 : once sinks = S0 at *
  have HSO := hide hS0
  clear hS0
  generalize hSS : inn S0 T = S at *
  have HSS := hide hSS
  clear hSS
  go_enter Try.func10, Try.ntmps10
  go_wp2_with (first
    | (go_at_call 24; refine HE.out.mono ?_; rintro r w1 ⟨u1, rfl, o1, b1⟩; have O1 := hide o1; have B1 := hide b1; clear o1 b1 HE)
    | (go_at_call 25; refine (newSet_any (O1.out.seg i64cs_len (by have := HT.out.tl; omega)) (Nat.le_refl _) HT.out.tl HT.out.t64 HND.out).mono ?_; rintro r w2 ⟨rfl, s2, b2⟩; have S2 := hide s2; have B2 := hide (B1.out.trans (b2.mono B1.out.size)); have O2 := hide (O1.out.below b2); clear s2 b2)
    | (go_at_call 26; refine (inBounds_any _ _).mono ?_; rintro r w3 ⟨rfl, rfl⟩)
    | ((have chk := O2; clear chk); go_at_call 27; refine (newRoll_any (O2.out.seg i64cs_len (by have := HT.out.tl; omega)) (Nat.le_refl _) HT.out.tl HT.out.t64 HND.out).mono ?_; rintro r w4 ⟨p1, q1, rfl, sp1, sq1, lp1, lq1, ne1, b4⟩; have SP1 := hide sp1; have SQ1 := hide sq1; have L1 : Hid (w2.heap.size ≤ p1 ∧ w2.heap.size ≤ q1 ∧ q1 ≠ p1) := hide ⟨lp1, lq1, ne1⟩; have B4 := hide b4; have O4 := hide (O2.out.below b4); clear sp1 sq1 lp1 lq1 ne1 b4 O2)
    | ((have chk := O4; clear chk); go_at_call 27; refine (newRoll_any (O4.out.seg i64cs_len (by have := HT.out.tl; omega)) (Nat.le_refl _) HT.out.tl HT.out.t64 HND.out).mono ?_; rintro r w5 ⟨p2, q2, rfl, sp2, sq2, lp2, lq2, ne2, b5⟩; have SP2 := hide sp2; have SQ2 := hide sq2; have L2 : Hid (w4.heap.size ≤ p2 ∧ w4.heap.size ≤ q2 ∧ q2 ≠ p2) := hide ⟨lp2, lq2, ne2⟩; have B5 := hide b5; have O5 := hide (O4.out.below b5); clear sp2 sq2 lp2 lq2 ne2 b5 O4; have B25 := hide (B4.out.trans (B5.out.mono B4.out.size)); have BW5 := hide (B2.out.trans (B25.out.mono B2.out.size)))
    | ((have chk := BW5; clear chk); go_at_call 24; refine (eachOnce_any (HS2.out.below BW5.out) BW5.out.size (by have := HN2.out; omega) HS64.out).mono ?_; rintro r w6 ⟨u6, rfl, o6, b6⟩; rw [HSO.out] at o6; have O6 := hide o6; have B6 := hide b6; clear o6 b6)
    | (go_at_call 28; refine (only_any (O6.out.seg i64cs_len (by have := HOL.out; omega)) (Nat.le_refl _) HOL.out HO64.out (S2.out.below (B25.out.trans (B6.out.mono B25.out.size)))).mono ?_; rintro r w7 ⟨u7, rfl, o7, b7⟩; rw [inn_rev, HSS.out] at o7; have O7 := hide o7; have B7 := hide (B6.out.trans (b7.mono B6.out.size)); clear o7 b7)
    | ((have chk := O7; clear chk); go_at_call 27; refine (newRoll_any (O7.out.seg i64cs_len (by have := HT.out.sl; omega)) (Nat.le_refl _) HT.out.sl HT.out.s64 HND2.out).mono ?_; rintro r w8 ⟨p3, q3, rfl, sp3, sq3, lp3, lq3, ne3, b8⟩; have SP3 := hide sp3; have SQ3 := hide sq3; have L3 : Hid (w7.heap.size ≤ p3 ∧ w7.heap.size ≤ q3 ∧ q3 ≠ p3) := hide ⟨lp3, lq3, ne3⟩; have B8 := hide b8; have O8 := hide (O7.out.below b8); clear sp3 sq3 lp3 lq3 ne3 b8 O7)
    | fail)
  have B58 : Hid (Below w5.heap.size w5 w8) := hide (B7.out.trans (B8.out.mono B7.out.size))
  have hz2 := B2.out.size
  have hz4 := B4.out.size
  have hz5 := B5.out.size
  have hz7 := B7.out.size
  have hz8 := B8.out.size
  have l1 := L1.out
  have l2 := L2.out
  have l3 := L3.out
  have g1 := SP1.out.lt
  have g2 := SQ1.out.lt
  have g3 := SP2.out.lt
  have g4 := SQ2.out.lt
  have g5 := SP3.out.lt
  have g6 := SQ3.out.lt
  have R1 := hide (O5.out.below B58.out)
  have P1 := hide ((SP1.out.below B5.out).below B58.out)
  have Q1 := hide ((SQ1.out.below B5.out).below B58.out)
  have P2 := hide (SP2.out.below B58.out)
  have Q2 := hide (SQ2.out.below B58.out)
  have BA := hide (BW5.out.trans (B58.out.mono BW5.out.size))
  have hza := BA.out.size
  have hat := R1.out.at
  have hat2 := O8.out.at
  go_ret
  refine ⟨_, ⟨u1, u7, p1, p2, p3, q1, q2, q3⟩, rfl, ?_, BA.out.trans ((below_box w8 _).mono hza), ?_⟩
  · have hb := below_box w8 (.cells #[.int .i64 (bnd iv : Int), .int .i64 (bnd to_ : Int), .int .i64 (bnd to_ : Int), .int .u64 0, .int .u64 0, .int .u64 0, .bool false, .int .u64 0, .int .i64 0, .int .i64 0, u1, .map (some p1), .map (some q1), u1, .map (some p2), .map (some q2), u7, .map (some p3), .map (some q3)] 59)
    exact { box := BoxT.new _ _ _, r1 := (R1.out.mono (Nat.zero_le _)).below hb, r2 := (O8.out.mono (Nat.zero_le _)).below hb, p1 := P1.out.below hb, p2 := P2.out.below hb, p3 := SP3.out.below hb, q1 := Q1.out.below hb, q2 := Q2.out.below hb, q3 := SQ3.out.below hb, ts := HT.out
            n1 := by
              show [p1, p2, p3, q1, q2, q3].Nodup
              simp only [List.nodup_cons, List.mem_cons, List.not_mem_nil, or_false, not_or]
              exact ⟨⟨by omega, by omega, by omega, by omega, by omega⟩, ⟨by omega, by omega, by omega, by omega⟩, ⟨by omega, by omega, by omega⟩, ⟨by omega, by omega⟩, by omega, by simp⟩ }
  · intro i hi
    rcases hi with (hi | hi | hi | hi) | hi | hi | hi | hi | hi
    · have : i = w8.heap.size := hi
      omega
    · have : i = q1 := hi
      omega
    · have : i = q2 := hi
      omega
    · have : i = q3 := hi
      omega
    · have : i = p1 := hi
      omega
    · have : i = p2 := hi
      omega
    · have : i = p3 := hi
      omega
    · exact hat i hi
    · have := hat2 i hi
      have := BW5.out.size
      have := B6.out.size
      omega

end Go.Proofs.Ytgjjacljjlhnhaa
