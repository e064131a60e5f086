/-
  The statement DiskKeeps, walked.
-/
import Derived.Test.YtnokibjhkdaamaaDKeepsP
import Derived.Lib.Strings
namespace Go.Proofs.Ytnokibjhkdaamaa
open Go.RowKit Go.Maps

/-- Numbers that came in lie outside the disk. -/
theorem iseg_stays {w0 w : World} {k b n : Nat} {p : Pd} (h : St w0 w k b n p) {v : Value} {l : List Int} (hl : LSeg 1 (fun x : Int => [Value.int .i64 x]) w0.heap.size w0 v l) : Hid (∀ w', Turned k b w w' → ISeg w' v l) := fun w' ht => by
  have hb := (h.s.step ht).below
  exact (hl.below hb).mono hb.size
theorem toList_nm (s : ByteArray) : s.toList = nm s := Lib.toList_data s
theorem beq_eq_decide (a b : List UInt8) : (a == b) = decide (a = b) := by
  rw [Bool.eq_iff_iff]
  simp
theorem nm_app (s t : ByteArray) : nm (s ++ t) = nm s ++ nm t := by simp [nm]
theorem nm_of {s : ByteArray} {l : List UInt8} (h : nm s = l) : s = ⟨l.toArray⟩ := by rw [← h, ba_nm]
/-- What holds when all is written, synced and renamed. -/
structure KeepE (w0 wr : World) (k b n : Nat) (p : Pd) (xs : List Stp) (at_ : ByteArray) (x : List Nat) : Prop where
  st : St w0 wr k b n p
  size : at_.size ≤ 32
  it : fGet (nm at_) p.l = some ⟨nm at_, x, x.length⟩
  from_ : ∀ f ∈ p.l, f.n = nm at_ ∨ ∃ t ∈ xs, t.wh < 3 ∧ nm t.nm = f.n ∧ t.bl = f.x

set_option maxHeartbeats 4000000 in
set_option maxRecDepth 100000 in
theorem DiskKeeps_walk (w : World) (ao : Option Addr) (cap : Nat) (xs : List Stp) (hs : Hid (Scr w (.slice ao xs.length cap) xs)) (s : ByteArray) (hss : s.size ≤ 140737488355328) (ab : Option Addr) (cb : Nat) (bl : List Nat) (hbl : Hid (SegB w.heap.size w (.slice ab bl.length cb) bl)) (hby : Hid (Byts bl))
    (ak : Option Addr) (ck : Nat) (kl : List Int) (hkl : Hid (LSeg 1 (fun x : Int => [Value.int .i64 x]) w.heap.size w (.slice ak kl.length ck) kl)) (rn : Bool) :
    Calls Try.prog 5 #[.slice ao xs.length cap, .string s, .slice ab bl.length cb, .slice ak kl.length ck, .bool rn] w fun e w' => e = .returned (.bool true) ∧ Below w.heap.size w w' := by
  have hknown := known_any w
  go_enter Try.func5, Try.ntmps5
  go_wp2_with fail
  refine hknown.mono ?_
  rintro e w1 ⟨rfl, hb1⟩
  clear hknown
  have hli := light_any w.heap.size w1 ao cap xs (hs.out.s.below hb1) hs.out.wt
  have HB1 := hide hb1
  clear hb1
  go_wp2_with fail
  refine hli.mono ?_
  rintro e w2 ⟨rfl, q, rfl⟩
  clear hli
  by_cases hlight : xs.length ≤ 300 ∧ tot xs ≤ 50000
  rotate_left
  · have e0 : decide (xs.length ≤ 300 ∧ tot xs ≤ 50000) = false := decide_eq_false hlight
    rw [e0]
    clear hlight
    go_wp2
    go_ret
    exact ⟨rfl, below_drewN' HB1.out q⟩
  have e0 : decide (xs.length ≤ 300 ∧ tot xs ≤ 50000) = true := decide_eq_true hlight
  rw [e0]
  obtain ⟨hl3, htt⟩ := hlight
  clear e0
  have HB2 := hide (below_drewN' HB1.out q)
  generalize w1.drewN q = w2 at *
  clear HB1
  by_cases s1 : s.size < 1
  · go_wp2
    go_ret
    exact ⟨rfl, HB2.out⟩
  by_cases s2 : 30 < s.size
  · go_wp2
    go_ret
    exact ⟨rfl, HB2.out⟩
  by_cases s3 : 2000 < bl.length
  · go_wp2
    go_ret
    exact ⟨rfl, HB2.out⟩
  by_cases s4 : 500 < kl.length
  · go_wp2
    go_ret
    exact ⟨rfl, HB2.out⟩
  go_wp2_with fail
  refine (kNew w w2 HB2.out 1048576 (by decide)).mono ?_
  rintro e w3 ⟨k, b, rfl, h3, -, -, -⟩
  have H3 : Hid (KeepI w w3 k b 0 xs 0 ⟨[], 1048576, -1⟩) := ⟨h3, Nat.le_refl _, rfl, rfl, by simp [fSum], by simp⟩
  clear h3 HB2
  go_wp2_with fail
  go_loopw [12] (fun iv wr => ∃ (i n : Nat) (p : Pd), i ≤ xs.length ∧ iv = .int .i64 i ∧ Hid (KeepI w wr k b n xs i p)) (fun iv _ => xs.length - (intOf iv).toNat)
  case atStart => exact ⟨0, 0, _, Nat.zero_le _, rfl, H3⟩
  case round =>
    obtain ⟨i, n, p, hi, rfl, HI⟩ := hrel
    clear H3
    by_cases hlt : i < xs.length
    · obtain ⟨t, ht0⟩ : ∃ t, xs[i]? = some t := ⟨_, List.getElem?_eq_getElem hlt⟩
      have hmem := List.mem_of_getElem? ht0
      obtain ⟨l1, l2, l3, l4⟩ := mem_wt hmem htt
      have hok := (hs.out.o t hmem).below HI.out.st.since
      obtain ⟨bb, off, rfl, hbb, c0, c1, c2, c3, c4, c5⟩ := (hs.out.s.below HI.out.st.since).stp ht0
      rw [Nat.add_zero] at c0
      have HT := hide ht0
      by_cases hw3 : t.wh < 3
      · have hn1 : n + 1 ≤ 1000000 := by have := HI.out.ni; omega
        have hsd : St w wr.drew k b n p := HI.out.st.below ((Below.refl _ _).drew)
        have hsg : Seg wr.drew (.slice t.ba t.bl.length t.bc) t.bl := (hok.b.seg HI.out.st.since.size).below ((Below.refl _ _).drew)
        have hwr := kWrite hsd hn1 t.nm (by unfold maxLen; omega) _ t.bl hsg hok.byts (pWrite p (nm t.nm) t.bl).1 (pWrite p (nm t.nm) t.bl).2 rfl
        have hpe : pWrite p (nm t.nm) t.bl = pWrite p (nm t.nm) t.bl := rfl
        generalize hpp : pWrite p (nm t.nm) t.bl = pe at hwr
        obtain ⟨p', er⟩ := pe
        dsimp only at hwr
        have HC := hide hwr
        have HPE := hide hpp
        clear hwr hpp hpe hsd hsg hok hmem ht0
        go_wp2_with fail
        go_region_law (go_simp; go_at_call 18; refine HC.out.mono ?_; rintro e w5 ⟨rfl, h5, t5⟩)
        all_goals
          have H5 := hide (HI.out.write HT.out hw3 htt HPE.out h5)
          clear h5 t5 HC HPE HI
          go_wp2
          go_roundw
          case rel => exact ⟨i + 1, n + 1, p', by omega, by go_num, H5⟩
          case measure => simp [intOf]; omega
      · clear hok hmem ht0
        go_wp2
        go_roundw
        case rel => exact ⟨i + 1, n, p, by omega, by go_num, HI.out.skip HT.out⟩
        case measure => simp [intOf]; omega
    · have hie : i = xs.length := by omega
      subst hie
      have hn2 : n ≤ 300 := by have := HI.out.ni; omega
      have hnm : okName (nm s) = true := by unfold okName; rw [nm_length]; simp; omega
      obtain ⟨n1, n2⟩ := HI.out.named htt (nm s) hnm bl (by omega)
      have hw := kWrite HI.out.st (by omega) s (by unfold maxLen; omega) _ bl ((hbl.out.below HI.out.st.since).seg HI.out.st.since.size) hby.out _ 0 n1
      have HPF := hide (And.intro HI.out.from_ n2)
      clear n1 n2
      go_wp2_with fail
      refine hw.mono ?_
      rintro e w5 ⟨rfl, h5, -⟩
      have H5 := hide h5
      clear h5 hw
      go_wp2_with fail
      refine (kSync H5.out (by omega) s (by unfold maxLen; omega) _ 0 HPF.out.2).mono ?_
      rintro e w6 ⟨rfl, h6, -⟩
      have hfrom := from_put (s := nm s) (x := bl) (m := bl.length) (from_put (s := nm s) (x := bl) (m := 0) (fun f hf => .inr (HPF.out.1 f hf)))
      have hget : fGet (nm s) (fPut ⟨nm s, bl, bl.length⟩ (fPut ⟨nm s, bl, 0⟩ p.l)) = some ⟨nm s, bl, bl.length⟩ := by rw [fGet_put, if_pos rfl]
      generalize fPut ⟨nm s, bl, bl.length⟩ (fPut ⟨nm s, bl, 0⟩ p.l) = L at *
      have H6 : Hid (KeepE w w6 k b (n + 1 + 1) ⟨L, 1048576, -1⟩ xs s bl) := ⟨h6, by omega, hget, hfrom⟩
      clear h6 hfrom hget H5 HPF HI
      cases rn
      case' true =>
        have hsz2 : (s ++ (⟨#[46]⟩ : ByteArray)).size = s.size + 1 := by rw [ByteArray.size_append]; rfl
        have hnm2 : okName (nm (s ++ (⟨#[46]⟩ : ByteArray))) = true := by unfold okName; rw [nm_length, hsz2]; simp; omega
        have hre := kRename H6.out.st (by omega) s (s ++ (⟨#[46]⟩ : ByteArray)) (by unfold maxLen; omega) (by rw [hsz2]; unfold maxLen; omega) _ 0 (rename_named H6.out.it hnm2)
        have hget : fGet (nm (s ++ (⟨#[46]⟩ : ByteArray))) (fPut ⟨nm (s ++ (⟨#[46]⟩ : ByteArray)), bl, bl.length⟩ (fDel (nm s) L)) = some ⟨nm (s ++ (⟨#[46]⟩ : ByteArray)), bl, bl.length⟩ := by rw [fGet_put, if_pos rfl]
        have hfrom : ∀ f ∈ fPut ⟨nm (s ++ (⟨#[46]⟩ : ByteArray)), bl, bl.length⟩ (fDel (nm s) L), f.n = nm (s ++ (⟨#[46]⟩ : ByteArray)) ∨ ∃ t ∈ xs, t.wh < 3 ∧ nm t.nm = f.n ∧ t.bl = f.x := from_put (fun f hf => by
          obtain ⟨m1, m2⟩ := mem_fDel.1 hf
          rcases H6.out.from_ f m1 with h | h
          · exact absurd h m2
          · exact .inr h)
        generalize fPut ⟨nm (s ++ (⟨#[46]⟩ : ByteArray)), bl, bl.length⟩ (fDel (nm s) L) = L2 at *
        have HGF := hide (And.intro hget hfrom)
        clear hget hfrom hnm2
        go_wp2_with fail
        refine hre.mono ?_
        rintro e w7 ⟨rfl, h7, -⟩
        have H7 : Hid (KeepE w w7 k b (n + 1 + 1 + 1) ⟨L2, 1048576, -1⟩ xs (s ++ (⟨#[46]⟩ : ByteArray)) bl) := ⟨h7, by omega, HGF.out.1, HGF.out.2⟩
        clear h7 HGF H6 hre
        generalize s ++ (⟨#[46]⟩ : ByteArray) = at_ at *
        generalize (⟨L2, 1048576, -1⟩ : Pd) = p7 at *
      case' false =>
        have H7 := H6
        clear H6
        generalize s = at_ at *
        generalize (⟨L, 1048576, -1⟩ : Pd) = p7 at *
      all_goals
        have hkp := kept_crash H7.out.st.d.ok H7.out.it H7.out.from_ kl
        have hcr := kCrash H7.out.st _ kl (iseg_stays H7.out.st hkl.out) (pCrash p7 kl) rfl
        have hat32 := H7.out.size
        generalize pCrash p7 kl = p8 at *
        have HKP := hide hkp
        clear hkp
        go_wp2_with fail
        refine hcr.mono ?_
        rintro e w8 ⟨rfl, h8, -⟩
        have H8 := hide h8
        clear h8 hcr H7
        obtain ⟨sy, hit⟩ := HKP.out.it
        have hfd : pFind p8 (nm at_) = (some ⟨nm at_, bl, sy⟩, 0) := by
          unfold pFind
          rw [if_neg (by rw [HKP.out.left]; decide), hit]
        have hrd := kRead H8.out at_ (by unfold maxLen; omega) _ 0 hfd
        clear hfd hit
        go_wp2_with fail
        refine hrd.mono ?_
        rintro e w9 ⟨v9, rfl, g9, h9, -⟩
        have hsb : Seg w9 (.slice ab bl.length cb) bl := (hbl.out.below h9.since).seg h9.since.size
        have hbt := Bytes_any v9 _ bl bl w9 g9 hsb
        have hdq : decide (bl = bl) = true := by simp
        rw [hdq] at hbt
        have H9 := hide h9
        clear hrd H8 g9 hsb hdq h9
        go_wp2_with fail
        refine hbt.mono ?_
        rintro e w10 ⟨rfl, b10⟩
        have H10 := hide (H9.out.below b10)
        clear b10 H9 hbt
        go_wp2_with fail
        have hpl : pList p8 = p8.l.map Fi.n := by unfold pList; rw [if_neg (by rw [HKP.out.left]; decide)]
        refine (kList H10.out _ hpl).mono ?_
        rintro e w11 ⟨vl, rfl, nl, -, h11, -⟩
        have hll : p8.l.length ≤ 1000000 := Nat.le_trans h11.d.ok.len h11.d.ok.many
        have H11 := hide (And.intro h11 nl)
        obtain ⟨al, cl, rfl, -⟩ := nl
        rw [List.length_map] at *
        clear h11 H10 hpl
        go_wp2_with fail
        go_loopg [19] p8.l.length (fun g s19 wx => ∃ i : Nat, i + g = p8.l.length ∧ s19 = .int .i64 i ∧ Hid (Below w11.heap.size w11 wx))
        case atStart => exact ⟨0, by omega, rfl, Below.refl _ _⟩
        case round =>
          obtain ⟨i, hig, rfl, HI2⟩ := hrel
          cases gk with
          | zero =>
            have hiz : ¬ ((i : Int) < (p8.l.length : Int)) := by omega
            go_wp2
            go_ret
            exact ⟨rfl, (H11.out.1.below HI2.out).since⟩
          | succ g =>
            have hiz : (i : Int) < (p8.l.length : Int) := by omega
            obtain ⟨f, hf⟩ : ∃ f, p8.l[i]? = some f := ⟨_, List.getElem?_eq_getElem (by omega)⟩
            have hfm := List.mem_of_getElem? hf
            have hst := H11.out.1.below HI2.out
            have hfn : f.n.length ≤ 32 := by have := hst.d.ok.name f hfm; unfold okName at this; simp at this; omega
            have hfx := hst.d.ok.size f hfm
            have hfd : pFind p8 (nm ⟨f.n.toArray⟩) = (some f, 0) := by
              unfold pFind
              rw [if_neg (by rw [HKP.out.left]; decide), nm_ba, get_at hst.d.ok.rise hf]
            have hnz : (⟨f.n.toArray⟩ : ByteArray).size ≤ maxLen := by
              show f.n.toArray.size ≤ maxLen
              unfold maxLen; simp; omega
            have hrd := kRead hst ⟨f.n.toArray⟩ hnz _ 0 hfd
            have HNL : Hid (∀ W, Below w11.heap.size w11 W → ∃ gn on, al = some ⟨gn, on, none⟩ ∧ W.cell? ⟨gn, on + i, none⟩ = some (.string ⟨f.n.toArray⟩)) := fun W hW => by
              obtain ⟨ao', cap', e, _, h4⟩ := H11.out.2
              simp only [Value.slice.injEq] at e
              obtain ⟨rfl, -, rfl⟩ := e
              rcases h4 with h4 | ⟨gn, on, rfl, hgn, h7⟩
              · rw [List.map_eq_nil_iff] at h4; rw [h4] at hf; simp at hf
              · have := h7 i f.n (by rw [List.getElem?_map, hf]; rfl) 0 _ rfl
                rw [Nat.mul_one, Nat.add_zero] at this
                exact ⟨gn, on, rfl, (hW.cell (p := ⟨gn, on + i, none⟩) hgn).trans this⟩
            obtain ⟨gn, on, rfl, hcn⟩ := HNL.out wr HI2.out
            have HFR := hide (HKP.out.from_ f hfm)
            have hsame : f.n = nm at_ ↔ (⟨f.n.toArray⟩ : ByteArray) = at_ := ⟨fun h => by rw [h, ba_nm], fun h => by rw [← h, nm_ba]⟩
            have HST := hide hst
            clear hf hfm hst hfd
            go_wp2_with fail
            refine hrd.mono ?_
            rintro e w12 ⟨v12, rfl, g12, h12, b12⟩
            have hb12 := HI2.out.trans (b12.mono HI2.out.size)
            obtain ⟨_, _, e12, hcn12⟩ := HNL.out w12 hb12
            cases e12
            have hg12 := g12
            obtain ⟨a12, q12, rfl, -⟩ := g12
            have H12 : Hid (Seg w12 (.slice a12 f.x.length q12) f.x ∧ St w w12 k b _ p8 ∧ Below w11.heap.size w11 w12) := ⟨hg12, h12, hb12⟩
            clear hg12 h12 hb12 b12 hrd HST hcn
            have hfdl : (fData (some f)).length = f.x.length := rfl
            rw [hfdl]
            obtain ⟨ok0, hok0⟩ : ∃ ok0 : Bool, ok0 = decide (f.n = nm at_) := ⟨_, rfl⟩
            have HOK0 := hide hok0
            have heqd : (f.n == at_.toList) = ok0 := by rw [hok0, toList_nm, beq_eq_decide]
            clear hok0 hsame
            have HFN := hide (And.intro hfn hfx)
            go_wp2_with fail
            go_loopg [22, 23] xs.length (fun g2 s22 s23 wy => ∃ (j : Nat) (okv : Bool), j + g2 = xs.length ∧ s23 = .int .i64 j ∧ s22 = .bool okv ∧ Hid (okv = (ok0 || (xs.take j).any (cnd f.n f.x))) ∧ Hid (∃ m, wy = w12.drewN m))
            case atStart => exact ⟨0, ok0, by omega, rfl, by first | rfl | (rw [← heqd]; rfl) | (simp [← heqd]) | (rw [heqd]), by simp [Hid], ⟨0, rfl⟩⟩
            case round =>
              obtain ⟨j, okv, hjg, rfl, rfl, HOV, HD⟩ := hrel
              clear heqd
              cases gk with
              | zero =>
                have hjz : ¬ ((j : Int) < (xs.length : Int)) := by omega
                have hov : okv = true := by
                  have hj : j = xs.length := by omega
                  rw [HOV.out, HOK0.out, hj, List.take_length]
                  rcases HFR.out with h | ⟨t, ht, h1, h2, h3, h4⟩
                  · simp [h]
                  · rw [Bool.or_eq_true]
                    exact .inr (List.any_eq_true.2 ⟨t, ht, decide_eq_true ⟨h1, h2, h3, h4⟩⟩)
                subst hov
                obtain ⟨m, rfl⟩ := HD.out
                go_wp2
                go_roundg g
                case measure => omega
                case rel => exact ⟨i + 1, by omega, by go_num, H12.out.2.2.trans (below_drewN' (Below.refl _ _) m |>.mono H12.out.2.2.size)⟩
              | succ g2 =>
                have hjz : (j : Int) < (xs.length : Int) := by omega
                obtain ⟨t, ht0⟩ : ∃ t, xs[j]? = some t := ⟨_, List.getElem?_eq_getElem (by omega)⟩
                have hmem := List.mem_of_getElem? ht0
                obtain ⟨l1, l2, l3, l4⟩ := mem_wt hmem htt
                have hany := any_succ ht0 (cnd f.n f.x)
                obtain ⟨m, rfl⟩ := HD.out
                have hsn := (H12.out.2.1.drewN m).since
                obtain ⟨bb, off, rfl, hbb, c0, c1, c2, c3, c4, c5⟩ := (hs.out.s.below hsn).stp ht0
                rw [Nat.add_zero] at c0
                have hsb : Seg (w12.drewN m) (.slice t.ba t.bl.length t.bc) t.bl := ((hs.out.o t hmem).b.below hsn).seg hsn.size
                have hcap : t.bl.length ≤ t.bc := by obtain ⟨_, _, e, h, _⟩ := hsb; cases e; exact h
                have HNX : Hid (∀ okv' : Bool, okv' = (okv || cnd f.n f.x t) → okv' = (ok0 || (xs.take (j + 1)).any (cnd f.n f.x))) := fun o ho => by rw [ho, hany, HOV.out, Bool.or_assoc]
                have HDR : Hid (∀ n, ∃ m', (w12.drewN m).drewN n = w12.drewN m') := fun n => ⟨_, World.drewN_drewN ..⟩
                have hnm : (t.nm.toList == f.n) = decide (nm t.nm = f.n) := by rw [toList_nm, beq_eq_decide]
                have HSY : Hid (Seg (w12.drewN m) (.slice a12 f.x.length q12) f.x) := H12.out.1.drewN m
                obtain ⟨_, _, e12, hcn13⟩ := HNL.out (w12.drewN m) (below_drewN' H12.out.2.2 m)
                cases e12
                clear hany hmem ht0 hsn HOV HD hcn12
                generalize w12.drewN m = wy at *
                cases okv
                case true =>
                  have HRS : Hid (true = (true || cnd f.n f.x t)) := rfl
                  clear hsb
                  go_wp2_with fail
                  go_quiet (fail)
                  go_wp2
                  go_roundg g2
                  case measure => omega
                  case rel => exact ⟨j + 1, true, by omega, by go_num, rfl, HNX.out _ HRS.out, HDR.out _⟩
                case false =>
                  by_cases h1 : t.wh < 3
                  rotate_left
                  · have HRS : Hid (false = (false || cnd f.n f.x t)) := by
                      show _ = _
                      unfold cnd; rw [decide_eq_false (by intro h; exact h1 h.1)]; rfl
                    have h1' : decide (t.wh < 3) = false := decide_eq_false h1
                    have h1'' : 3 ≤ t.wh := by omega
                    clear hsb
                    go_wp2_with fail
                    go_quiet (fail)
                    go_wp2
                    go_roundg g2
                    case measure => omega
                    case rel => exact ⟨j + 1, false, by omega, by go_num, rfl, HNX.out _ HRS.out, HDR.out _⟩
                  by_cases h2 : nm t.nm = f.n
                  rotate_left
                  · have HRS : Hid (false = (false || cnd f.n f.x t)) := by
                      show _ = _
                      unfold cnd; rw [decide_eq_false (by intro h; exact h2 h.2.1)]; rfl
                    rw [decide_eq_false h2] at hnm
                    clear hsb h2
                    go_wp2_with fail
                    go_quiet (fail)
                    go_wp2
                    go_roundg g2
                    case measure => omega
                    case rel => exact ⟨j + 1, false, by omega, by go_num, rfl, HNX.out _ HRS.out, HDR.out _⟩
                  rw [decide_eq_true h2] at hnm
                  by_cases h3 : f.x.length ≤ t.bl.length
                  rotate_left
                  · have HRS : Hid (false = (false || cnd f.n f.x t)) := by
                      show _ = _
                      unfold cnd; rw [decide_eq_false (by intro h; exact h3 h.2.2.1)]; rfl
                    clear hsb h2
                    go_wp2_with fail
                    go_quiet (fail)
                    go_wp2
                    go_roundg g2
                    case measure => omega
                    case rel => exact ⟨j + 1, false, by omega, by go_num, rfl, HNX.out _ HRS.out, HDR.out _⟩
                  obtain ⟨dd, hdd⟩ : ∃ dd : Bool, decide (f.x = t.bl.take f.x.length) = dd := ⟨_, rfl⟩
                  have hres : dd = (false || cnd f.n f.x t) := by
                    rw [← hdd]; unfold cnd; rw [Bool.false_or, Bool.eq_iff_iff, decide_eq_true_eq, decide_eq_true_eq]
                    exact ⟨fun h => ⟨h1, h2, h3, h⟩, fun h => h.2.2.2⟩
                  have HC := fun n => Bytesq_any (.slice a12 f.x.length q12) (.slice t.ba f.x.length t.bc) f.x (t.bl.take f.x.length) (wy.drewN n) (HSY.out.drewN n) ((hsb.first f.x.length h3).drewN n)
                  rw [hdd] at HC
                  have hc3 : (f.x.length : Int) ≤ (t.bc : Int) := by omega
                  have HRS := hide hres
                  clear hsb h2 hdd hres
                  go_wp2_with fail
                  go_quiet (first | (go_at_call 29; exact Calls.quiet_of (HC _)))
                  clear HC
                  go_wp2
                  go_roundg g2
                  case measure => omega
                  case rel => exact ⟨j + 1, dd, by omega, by go_num, rfl, HNX.out _ HRS.out, HDR.out _⟩
end Go.Proofs.Ytnokibjhkdaamaa
